import PyProof.Rows.All
import Wide.All
import OpenK.AllK
import Wide.FinOn
import Lean
import PyProof.EqAt
import PyProof.EqKinds
import PyProof.TupleCall
import PySem.Challenge.RW_calmcount_k08_refused
set_option Elab.async false
set_option linter.all false
set_option maxRecDepth 100000
namespace L2
open PySem PySem.Spec PyProof.Rows

noncomputable abbrev Key := Sum Int Str
noncomputable def keyIs : Key → Value → Bool
  | .inl k, v => Value.isInt k v
  | .inr x, v => Value.isStrOf x v
noncomputable def keyH (w : World) : Key → Int
  | .inl k => hashInt k
  | .inr x => hashStr w x
theorem keyIs_shape : ∀ {k : Key} {v : Value}, keyIs k v = true → (∃ i t, k = Sum.inl i ∧ v = Value.int i t) ∨ (∃ x t, k = Sum.inr x ∧ v = Value.str x t)
  | .inl i, v, h => by
    obtain ⟨t, e⟩ := Value.isInt_shape (k := i) (v := v) h
    exact .inl ⟨i, t, rfl, e⟩
  | .inr x, v, h => by
    obtain ⟨t, e⟩ := Value.isStrOf_shape (x := x) (v := v) h
    exact .inr ⟨x, t, rfl, e⟩
theorem key_ll (a b : Int) : decide ((Sum.inl a : Key) = Sum.inl b) = (a == b) := by
  by_cases e : a = b
  · subst e; simp
  · have h : ¬ (Sum.inl a : Key) = Sum.inl b := fun q => e (Sum.inl.inj q)
    rw [decide_eq_false h]
    exact (beq_eq_false_iff_ne.mpr e).symm
theorem key_rr (a b : Str) : decide ((Sum.inr a : Key) = Sum.inr b) = decide (a = b) := by
  by_cases e : a = b
  · subst e; simp
  · have h : ¬ (Sum.inr a : Key) = Sum.inr b := fun q => e (Sum.inr.inj q)
    rw [decide_eq_false h, decide_eq_false e]
theorem key_lr (a : Int) (b : Str) : decide ((Sum.inl a : Key) = Sum.inr b) = false := decide_eq_false (fun q => nomatch q)
theorem key_rl (a : Str) (b : Int) : decide ((Sum.inr a : Key) = Sum.inl b) = false := decide_eq_false (fun q => nomatch q)

noncomputable def mixKind (prog : Program) (w : World) : PySem.KeyKind prog w Key where
  is := keyIs
  hash := keyH w
  inj := fun v a b ha hb => by
    rcases keyIs_shape ha with ⟨i, t, rfl, rfl⟩ | ⟨x, t, rfl, rfl⟩
    · rcases keyIs_shape hb with ⟨j, u, rfl, e⟩ | ⟨y, u, rfl, e⟩
      · injection e with e1 _; rw [e1]
      · exact nomatch e
    · rcases keyIs_shape hb with ⟨j, u, rfl, e⟩ | ⟨y, u, rfl, e⟩
      · exact nomatch e
      · injection e with e1 _; rw [e1]
  byValue := fun k v h => by
    rcases keyIs_shape h with ⟨i, t, rfl, rfl⟩ | ⟨x, t, rfl, rfl⟩ <;> rfl
  pyHash := fun hv h => by
    rcases keyIs_shape hv with ⟨i, t, rfl, rfl⟩ | ⟨x, t, rfl, rfl⟩
    · exact wpAny_pyHash_int h
    · exact wpAny_pyHash_str h
  eqBool := fun hu hv h => by
    rcases keyIs_shape hu with ⟨i, t, rfl, rfl⟩ | ⟨x, t, rfl, rfl⟩
    · rcases keyIs_shape hv with ⟨j, u, rfl, rfl⟩ | ⟨y, u, rfl, rfl⟩
      · rw [key_ll] at h; exact wpAny_eqBool_int h
      · rw [key_lr] at h; exact SeqAt.EqAt.int_str i t y u _ _ _ _ h
    · rcases keyIs_shape hv with ⟨j, u, rfl, rfl⟩ | ⟨y, u, rfl, rfl⟩
      · rw [key_rl] at h; exact SeqAt.EqAt.str_int x t j u _ _ _ _ h
      · rw [key_rr] at h; exact wpAny_eqBool_str h
  «strs» := fun k x t v h => by
    rcases keyIs_shape h with ⟨i, u, rfl, e⟩ | ⟨y, u, rfl, e⟩
    · exact nomatch e
    · injection e with e1 _
      subst e1
      cases v <;> rfl

end L2

namespace L2
open PySem PySem.Spec PyProof.Rows

inductive V where
  | non | bl (b : Bool) | int (i : Int) | str (x : Str) | byt (b : Array UInt8) | flt (b : UInt64) | ref (a : Addr) | ty (n : String)
  deriving DecidableEq

noncomputable def RelV : V → Value → Prop
  | .non, u => u = Value.none
  | .bl b, u => u = Value.bool b
  | .int i, u => ∃ t, u = Value.int i t
  | .str x, u => ∃ t, u = Value.str x t
  | .byt b, u => ∃ t, u = Value.bytes b t
  | .flt b, u => ∃ t, u = Value.float b t
  | .ref a, u => u = Value.ref a
  | .ty n, u => u = Value.type n

noncomputable abbrev Vals : List V → List Value → Prop := Paired RelV
theorem Vals.length {xs : List V} {us : List Value} (r : Vals xs us) : xs.length = us.length := Paired.length r
theorem Vals.get : ∀ {xs : List V} {us : List Value} {i : Nat} {x : V}, Vals xs us → xs[i]? = some x → ∃ u, us[i]? = some u ∧ RelV x u
  | _, _, _, _, .nil, e => by simp at e
  | _, _, 0, _, .cons r _, e => by simp at e; subst e; exact ⟨_, rfl, r⟩
  | _, _, i + 1, x, .cons _ t, e => by
    obtain ⟨u, h1, h2⟩ := Vals.get (i := i) (x := x) t (by simpa using e)
    exact ⟨u, by simpa using h1, h2⟩
theorem Vals.set {x : V} {u : Value} (r : RelV x u) : ∀ {xs : List V} {us : List Value} (i : Nat), Vals xs us → Vals (xs.set i x) (us.set i u)
  | _, _, _, .nil => .nil
  | _, _, 0, .cons _ t => .cons r t
  | _, _, i + 1, .cons q t => .cons q (Vals.set r i t)
theorem Vals.append : ∀ {xs ys : List V} {us ws : List Value}, Vals xs us → Vals ys ws → Vals (xs ++ ys) (us ++ ws)
  | _, _, _, _, .nil, s => s
  | _, _, _, _, .cons r t, s => .cons r (Vals.append t s)
theorem Vals.take : ∀ {xs : List V} {us : List Value} (n : Nat), Vals xs us → Vals (xs.take n) (us.take n)
  | _, _, 0, _ => .nil
  | _, _, _ + 1, .nil => .nil
  | _, _, n + 1, .cons r t => .cons r (Vals.take n t)
theorem Vals.drop : ∀ {xs : List V} {us : List Value} (n : Nat), Vals xs us → Vals (xs.drop n) (us.drop n)
  | _, _, 0, r => r
  | _, _, _ + 1, .nil => .nil
  | _, _, n + 1, .cons _ t => Vals.drop n t
theorem Vals.none_of : ∀ {xs : List V} {us : List Value} {i : Nat}, Vals xs us → xs[i]? = none → us[i]? = none := fun {xs us i} r e => by
  have h1 := r.length
  have h2 : xs.length ≤ i := List.getElem?_eq_none_iff.mp e
  exact List.getElem?_eq_none_iff.mpr (by omega)

noncomputable def RelO : Option V → Option Value → Prop
  | some v, some u => RelV v u
  | none, none => True
  | _, _ => False
noncomputable def KV {κ : Type} : List (κ × V) → List (κ × Value) → Prop := Paired fun (p : κ × V) (q : κ × Value) => p.1 = q.1 ∧ RelV p.2 q.2

noncomputable def kV : Key → V
  | .inl i => .int i
  | .inr x => .str x

inductive HO where
  /-- a list -/
  | lst (xs : List V)
  /-- a tuple (never changes) -/
  | tup (xs : List V)
  /-- a dict whose keys are ints and texts; one whose keys are tuples of ints and texts (the empty one is both) -/
  | dK (kvs : List (Key × V)) | dT (kvs : List (List Key × V))
  /-- a set of ints: its members, its size -/
  | set (S : Int → Bool) (n : Nat)
  /-- an instance of the class at C, its dict at dx, its attributes -/
  | ins (C dx : Addr) (fs : List (Str × V))
  /-- the dict of the instance at x -/
  | own (x : Addr)
  /-- the dict of an exception -/
  | xd (fs : List (Str × V))
  /-- a bound method, f of x -/
  | met (f x : Addr)
  /-- a range object lo, lo + 1, .. below hi -/
  | rng (lo hi : Int)
  /-- a thing that is known to the object (the script; a dict while a loop walks it): read, never written while it is so -/
  | frz (o : Obj) (u : HO)
  /-- a code object's table -/
  | tbl (ps : Array Value)
  /-- any other thing, by what is true of its one object (a def of one's own: SetO a S n := HO.ext fun h => ..) -/
  | ext (φ : Heap → Prop)

noncomputable abbrev Hp := Addr → Option HO
noncomputable def upd (H : Hp) (a : Addr) (o : HO) : Hp := fun b => if b = a then some o else H b
theorem upd_same {H : Hp} {a : Addr} {o : HO} : upd H a o a = some o := by unfold upd; rw [if_pos rfl]
theorem upd_ne {H : Hp} {a b : Addr} {o : HO} (h : b ≠ a) : upd H a o b = H b := by unfold upd; rw [if_neg h]
theorem ne_of_none {H : Hp} {a b : Addr} {o : HO} (h : H a = some o) (h' : H b = none) : a ≠ b := by
  intro e; subst e; rw [h] at h'; cases h'

section
variable (P : Program) (w : World)
noncomputable def ObjOk (H : Hp) (h : Heap) (a : Addr) : HO → Prop
  | .lst xs => xs.length ≤ sizeLine ∧ ∃ (its : List Value) (n : Nat), Vals xs its ∧ h.get? a = some { cls := .type "list", data := .seq its.toArray n }
  | .tup xs => xs.length ≤ sizeLine ∧ ∃ its : List Value, Vals xs its ∧ IsTup h a its.toArray
  | .dK kvs => kvs.length ≤ sizeLine ∧ (a == sysModules) = false ∧ ∃ vs, KV kvs vs ∧ h.DictOf (mixKind P w) a vs
  | .dT kvs => kvs.length ≤ sizeLine ∧ (a == sysModules) = false ∧ ∃ xs : List (List Key × Addr × Value),
      Paired (fun (p : List Key × V) (q : List Key × Addr × Value) => p.1 = q.1 ∧ H q.2.1 = some (.tup (p.1.map kV)) ∧ RelV p.2 q.2.2) kvs xs ∧
      ∃ o es ep, h.get? a = some o ∧ o.ExactDict ∧ o.data = .dict es ep ∧ es.toList = xs.map (entryOfKey (tupleKind (mixKind P w))) ∧ (xs.map (·.1)).Nodup
  | .set S n => h.SetOf (intKind P w) a S n
  | .ins C dx fs => H dx = some (.own a) ∧ fs.length ≤ 1000 ∧ dx ≠ a ∧ h.get? a = some (PySem.W.instObj C dx) ∧
      ∃ mA, h.Ns1 dx mA ∧ (∀ f, RelO (fs.lookup f) (mA f)) ∧ PySem.Within mA (fs.map (·.1))
  | .own _ => ∃ o, h.get? a = some o
  | .xd fs => ∃ mA, h.Ns1 a mA ∧ ∀ f, RelO (fs.lookup f) (mA f)
  | .rng lo hi => ∃ t u v, h.get? a = some { cls := .type "range", data := .fields #[.int lo t, .int hi u, .int 1 v] }
  | .frz o u => h.get? a = some o ∧ ObjOk H h a u
  | .tbl ps => h.get? a = some { cls := .none, data := .fields ps }
  | .met f x => h.get? a = some (PySem.W.methodObj (.ref f) (.ref x))
  | .ext φ => φ h ∧ (∃ o, h.get? a = some o) ∧ ∀ h1 h2 : Heap, φ h1 → (∀ o, h1.get? a = some o → h2.get? a = some o) → φ h2
noncomputable def HOk (H : Hp) (h : Heap) : Prop := ∀ a o, H a = some o → ObjOk P w H h a o
end

section
variable {P : Program} {w : World} {H H' : Hp} {h h' : Heap} {a : Addr} {o : HO}
theorem ObjOk.lt (x : ObjOk P w H h a o) : a < h.objs.size := by
  cases o with
  | lst xs => obtain ⟨_, _, _, _, e⟩ := x; exact Heap.lt_size e
  | tup xs => obtain ⟨_, _, _, p⟩ := x; exact p.lt
  | dK kvs => obtain ⟨_, _, _, _, o, _, _, e, _⟩ := x; exact Heap.lt_size e
  | dT kvs => obtain ⟨_, _, _, _, o, _, _, e, _⟩ := x; exact Heap.lt_size e
  | set S n => obtain ⟨o, _, _, _, e, _⟩ := x; exact Heap.lt_size e
  | ins C dx fs => obtain ⟨_, _, _, e, _⟩ := x; exact Heap.lt_size e
  | own y => obtain ⟨_, e⟩ := x; exact Heap.lt_size e
  | xd fs => obtain ⟨_, ⟨_, _, _, e, _⟩, _⟩ := x; exact Heap.lt_size e
  | rng lo hi => obtain ⟨_, _, _, e⟩ := x; exact Heap.lt_size e
  | frz ob u => obtain ⟨e, _⟩ := x; exact Heap.lt_size e
  | tbl ps => exact Heap.lt_size (show h.get? a = some _ from x)
  | met f y => exact Heap.lt_size (show h.get? a = some _ from x)
  | ext φ => obtain ⟨_, ⟨_, e⟩, _⟩ := x; exact Heap.lt_size e
theorem Paired.mapP {α β : Type} {F G : α → β → Prop} : ∀ {l₁ : List α} {l₂ : List β}, Paired F l₁ l₂ → (∀ a b, F a b → G a b) → Paired G l₁ l₂
  | _, _, .nil, _ => .nil
  | _, _, .cons r t, f => .cons (f _ _ r) (Paired.mapP t f)
theorem ObjOk.stay (x : ObjOk P w H h a o) (k : ∀ b u, (b = a ∨ H b = some (.own a)) → h.get? b = some u → h'.get? b = some u)
    (ho : ∀ b, H b = some (.own a) → H' b = some (.own a)) (ht : ∀ b xs, H b = some (.tup xs) → H' b = some (.tup xs)) : ObjOk P w H' h' a o := by
  induction o with
  | lst xs => obtain ⟨z, its, n, r, e⟩ := x; exact ⟨z, its, n, r, k _ _ (.inl rfl) e⟩
  | tup xs => obtain ⟨z, its, r, ob, e, c⟩ := x; exact ⟨z, its, r, ob, k _ _ (.inl rfl) e, c⟩
  | dK kvs => obtain ⟨z, y, vs, r, ob, es, ep, e, c⟩ := x; exact ⟨z, y, vs, r, ob, es, ep, k _ _ (.inl rfl) e, c⟩
  | dT kvs =>
    obtain ⟨z, y, xs, r, ob, es, ep, e, c⟩ := x
    exact ⟨z, y, xs, Paired.mapP r fun p q z => ⟨z.1, ht _ _ z.2.1, z.2.2⟩, ob, es, ep, k _ _ (.inl rfl) e, c⟩
  | set S n => obtain ⟨ob, es, ep, t, e, c⟩ := x; exact ⟨ob, es, ep, t, k _ _ (.inl rfl) e, c⟩
  | ins C dx fs =>
    obtain ⟨d, z, ne, e, mA, ⟨od, es, ep, e2, c⟩, r⟩ := x
    exact ⟨ho _ d, z, ne, k _ _ (.inl rfl) e, mA, ⟨od, es, ep, k _ _ (.inr d) e2, c⟩, r⟩
  | own y => obtain ⟨ob, e⟩ := x; exact ⟨ob, k _ _ (.inl rfl) e⟩
  | xd fs => obtain ⟨mA, ⟨od, es, ep, e, c⟩, r⟩ := x; exact ⟨mA, ⟨od, es, ep, k _ _ (.inl rfl) e, c⟩, r⟩
  | rng lo hi => obtain ⟨t, u, v, e⟩ := x; exact ⟨t, u, v, k _ _ (.inl rfl) e⟩
  | frz ob u ih => obtain ⟨e, q⟩ := x; exact ⟨k _ _ (.inl rfl) e, ih q⟩
  | tbl ps =>
    have e : h.get? a = some { cls := .none, data := .fields ps } := x
    show h'.get? a = some { cls := .none, data := .fields ps }
    exact k a _ (.inl rfl) e
  | met f y =>
    have e : h.get? a = some (PySem.W.methodObj (.ref f) (.ref y)) := x
    show h'.get? a = some (PySem.W.methodObj (.ref f) (.ref y))
    exact k a _ (.inl rfl) e
  | ext φ => obtain ⟨p, ⟨o, e⟩, st⟩ := x; exact ⟨st _ _ p fun o q => k _ _ (.inl rfl) q, ⟨o, k _ _ (.inl rfl) e⟩, st⟩
theorem HOk.lt (x : HOk P w H h) (e : H a = some o) : a < h.objs.size := (x a o e).lt
theorem HOk.fresh (x : HOk P w H h) (e : h.objs.size ≤ a) : H a = none := by
  cases q : H a with
  | none => rfl
  | some u => exact absurd (Nat.lt_of_lt_of_le (x.lt q) e) (Nat.lt_irrefl _)
theorem HOk.kept (x : HOk P w H h) (k : ∀ b u, h.get? b = some u → h'.get? b = some u) : HOk P w H h' := fun a o e =>
  (x a o e).stay (fun b u _ q => k b u q) (fun _ q => q) fun _ _ q => q
theorem HOk.laid (x : HOk P w H h) (k : ∀ b u, h.get? b = some u → h'.get? b = some u) (hp : h.objs.size ≤ a) (new : ObjOk P w (upd H a o) h' a o) : HOk P w (upd H a o) h' := fun b u e => by
  have hn := x.fresh hp
  by_cases hb : b = a
  · subst hb; rw [upd_same] at e; cases e; exact new
  · rw [upd_ne hb] at e
    exact (x b u e).stay (fun c v _ q => k c v q) (fun c q => by rw [upd_ne (ne_of_none q hn)]; exact q) fun c xs q => by rw [upd_ne (ne_of_none q hn)]; exact q
end

noncomputable def Rd (H : Hp) (a : Addr) (u : HO) : Prop := H a = some u ∨ ∃ o, H a = some (.frz o u)
theorem Rd.of {H : Hp} {a : Addr} {u : HO} (h : H a = some u) : Rd H a u := .inl h
theorem Rd.ok {P : Program} {w : World} {H : Hp} {h : Heap} {a : Addr} {u : HO} (r : Rd H a u) (x : HOk P w H h) : ObjOk P w H h a u := by
  rcases r with r | ⟨o, r⟩
  · exact x a u r
  · obtain ⟨_, q⟩ := x a _ r
    exact q
noncomputable def Mut : Option HO → Prop
  | some (.lst _) => True
  | some (.dK _) => True
  | some (.dT _) => True
  | some (.set _ _) => True
  | some (.ins _ _ _) => True
  | some (.ext _) => True
  | _ => False
section
variable {P : Program} {w : World} {H : Hp} {h h' : Heap} {x e : Addr} {o' : HO}
theorem HOk.write (ok : HOk P w H h) (mu : Mut (H x)) (he : e = x ∨ H e = some (.own x)) (k : ∀ b u, b ≠ e → h.get? b = some u → h'.get? b = some u) (heo : ∃ u, h'.get? e = some u)
    (new : ObjOk P w (upd H x o') h' x o') : HOk P w (upd H x o') h' := fun b u q => by
  have nown : ∀ c y, H c = some (.own y) → c ≠ x := fun c y r z => by subst z; rw [r] at mu; exact mu
  have ntup : ∀ c xs, H c = some (.tup xs) → c ≠ x := fun c xs r z => by subst z; rw [r] at mu; exact mu
  by_cases hb : b = x
  · subst hb; rw [upd_same] at q; cases q; exact new
  · rw [upd_ne hb] at q
    by_cases hbe : b = e
    · have q' : H b = some (.own x) := by
        rcases he with z | z
        · exact absurd (hbe.trans z) hb
        · rw [hbe]; exact z
      rw [q] at q'; cases q'
      obtain ⟨v, hv⟩ := heo
      exact ⟨v, by rw [hbe]; exact hv⟩
    · refine (ok b u q).stay (fun c v hc r => k c v ?_ r) (fun c r => by rw [upd_ne (nown c b r)]; exact r) fun c xs r => by rw [upd_ne (ntup c xs r)]; exact r
      rcases hc with rfl | hc
      · exact hbe
      · rintro rfl
        rcases he with z | z
        · exact nown c b hc z
        · rw [hc] at z; cases z; exact hb rfl
end

structure Un (fs ex : List Addr) (H H' : Hp) (h h' : Heap) : Prop where
  keep : ∀ b o, h.get? b = some o → H b = none → b ∉ fs → b ∉ ex → h'.get? b = some o
  slot : ∀ b o, h.get? b = some o → H b = none → b ∈ fs → b ∉ ex → ∃ sl, h'.get? b = some { o with slots := sl }
  free : ∀ b o, h.get? b = some o → H b = none → b ∉ ex → H' b = none
  there : ∀ b o, h.get? b = some o → b ∉ ex → ∃ o', h'.get? b = some o'
  tups : ∀ b xs, H b = some (.tup xs) → H' b = some (.tup xs)
  frzs : ∀ b o u, H b = some (.frz o u) → H' b = some (.frz o u)
  tbls : ∀ b ps, H b = some (.tbl ps) → ∃ more, H' b = some (.tbl (ps ++ more))
section
variable {fs fs' ex ex' : List Addr} {H H1 H2 : Hp} {h h1 h2 h' : Heap} {a x e : Addr} {o : HO}
theorem Un.any (u : Un fs ex H H1 h h1) {b : Addr} {ob : Obj} (q : h.get? b = some ob) (n : H b = none) (hx : b ∉ ex) : ∃ sl, h1.get? b = some { ob with slots := sl } := by
  by_cases hb : b ∈ fs
  · exact u.slot b ob q n hb hx
  · exact ⟨ob.slots, u.keep b ob q n hb hx⟩
theorem Un.trans (a : Un fs ex H H1 h h1) (b : Un fs ex H1 H2 h1 h2) : Un fs ex H H2 h h2 where
  keep := fun c ob q n hc hx => b.keep c ob (a.keep c ob q n hc hx) (a.free c ob q n hx) hc hx
  slot := fun c ob q n hc hx => by
    obtain ⟨sl, e1⟩ := a.slot c ob q n hc hx
    obtain ⟨sl', e2⟩ := b.slot c _ e1 (a.free c ob q n hx) hc hx
    exact ⟨sl', e2⟩
  free := fun c ob q n hx => by
    obtain ⟨o', e1⟩ := a.there c ob q hx
    exact b.free c o' e1 (a.free c ob q n hx) hx
  there := fun c ob q hx => by
    obtain ⟨o', e1⟩ := a.there c ob q hx
    exact b.there c o' e1 hx
  tups := fun c xs q => b.tups c xs (a.tups c xs q)
  frzs := fun c ob xs q => b.frzs c ob xs (a.frzs c ob xs q)
  tbls := fun c ps q => by
    obtain ⟨m1, e1⟩ := a.tbls c ps q
    obtain ⟨m2, e2⟩ := b.tbls c _ e1
    exact ⟨m1 ++ m2, by rw [e2, Array.append_assoc]⟩
theorem Un.kept (k : ∀ b u, h.get? b = some u → h'.get? b = some u) : Un fs ex H H h h' :=
  ⟨fun b ob q _ _ _ => k b ob q, fun b ob q _ _ _ => ⟨ob.slots, k b ob q⟩, fun _ _ _ n _ => n, fun b ob q _ => ⟨ob, k b ob q⟩, fun _ _ q => q, fun _ _ _ q => q, fun _ ps q => ⟨#[], by rw [q]; simp⟩⟩
theorem Un.refl : Un fs ex H H h h := Un.kept fun _ _ q => q
theorem Un.laid (k : ∀ b u, h.get? b = some u → h'.get? b = some u) (hp : h.objs.size ≤ a) (hn : H a = none) : Un fs ex H (upd H a o) h h' where
  keep := fun b u q _ _ _ => k b u q
  slot := fun b u q _ _ _ => ⟨u.slots, k b u q⟩
  free := fun b u q n _ => by rw [upd_ne (Nat.ne_of_lt (Nat.lt_of_lt_of_le (Heap.lt_size q) hp))]; exact n
  there := fun b u q _ => ⟨u, k b u q⟩
  tups := fun b xs q => by rw [upd_ne (ne_of_none q hn)]; exact q
  frzs := fun b u xs q => by rw [upd_ne (ne_of_none q hn)]; exact q
  tbls := fun b ps q => ⟨#[], by rw [upd_ne (ne_of_none q hn), q]; simp⟩
theorem Un.write (mu : Mut (H x)) (he : e = x ∨ H e = some (.own x)) (k : ∀ b u, b ≠ e → h.get? b = some u → h'.get? b = some u) (heo : ∃ u, h'.get? e = some u) : Un fs ex H (upd H x o) h h' := by
  have hx : ∀ b, H b = none → b ≠ x := fun b n z => by subst z; rw [n] at mu; exact mu
  have hb : ∀ b, H b = none → b ≠ e := fun b n z => by
    subst z
    rcases he with r | r
    · exact hx b n r
    · rw [n] at r; cases r
  have hm : ∀ b u, H b = some u → ¬ Mut (some u) → b ≠ x := fun b u q nm z => by subst z; rw [q] at mu; exact nm mu
  refine ⟨fun b u q n _ _ => k b u (hb b n) q, fun b u q n _ _ => ⟨u.slots, k b u (hb b n) q⟩, fun b u q n _ => by rw [upd_ne (hx b n)]; exact n, fun b u q _ => ?_,
    fun b xs q => by rw [upd_ne (hm b _ q fun z => z)]; exact q, fun b u xs q => by rw [upd_ne (hm b _ q fun z => z)]; exact q, fun b ps q => ⟨#[], by rw [upd_ne (hm b _ q fun z => z), q]; simp⟩⟩
  by_cases hbe : b = e
  · subst hbe; exact heo
  · exact ⟨u, k b u hbe q⟩
theorem Un.mono (u : Un fs ex H H1 h h1) (hs : ∀ b ∈ fs, b ∈ fs') (hx : ∀ b ∈ ex, b ∈ ex') : Un fs' ex' H H1 h h1 :=
  ⟨fun b ob q n hb he => u.keep b ob q n (fun z => hb (hs b z)) fun z => he (hx b z), fun _ _ q n _ he => u.any q n fun z => he (hx _ z), fun b ob q n he => u.free b ob q n fun z => he (hx b z), fun b ob q he => u.there b ob q fun z => he (hx b z), u.tups, u.frzs, u.tbls⟩
end

noncomputable def trk (h : Heap) (H : Hp) : List Addr := (List.range h.objs.size).filter fun a => (H a).isSome
noncomputable def hidT (h : Heap) (H : Hp) : Heap := PySem.W.hideAll h (trk h H)
theorem hidT_size (h : Heap) (H : Hp) : (hidT h H).objs.size = h.objs.size := PySem.W.hideAll_size _ _
theorem hidT_get {h : Heap} {H : Hp} {b : Addr} {o : Obj} (e : h.get? b = some o) (n : H b = none) : (hidT h H).get? b = some o :=
  PySem.W.hideAll_get _ e fun hm => by
    have q : (H b).isSome = true := (List.mem_filter.mp hm).2
    rw [n] at q; simp at q
theorem of_hidT {h : Heap} {H : Hp} {b : Addr} {o : Obj} (e : (hidT h H).get? b = some o) : h.get? b = some o ∧ H b = none := by
  have e' : h.get? b = some o := PySem.W.of_hideAll (trk h H) e
  refine ⟨e', ?_⟩
  cases q : H b with
  | none => rfl
  | some x =>
    have hm : b ∈ trk h H := List.mem_filter.mpr ⟨List.mem_range.mpr (Heap.lt_size e'), by simp [q]⟩
    have z : (hidT h H).get? b = none := PySem.W.hideAll_none (trk h H) hm
    rw [z] at e; cases e

noncomputable def allNews (g h : Heap) (L : Addr) : List (Addr × Obj) := (List.range h.objs.size).filterMap fun a => if a = L ∨ (g.get? a).isSome = true then none else (h.get? a).map fun o => (a, o)
noncomputable def rest (g h : Heap) (L d : Addr) : List (Addr × Obj) := (allNews g h L).filter fun p => decide (p.1 ≠ d)
end L2

namespace L2
open PySem PySem.Spec PyProof.Rows

structure Mod (K : PySem.W.Frag) (mg : Str → Option Value) (base : Heap) : Prop where
  kin : K.In base
  glob : base.Ns mainGlobals mg
  blt : ∃ mb, base.Ns builtinsNs mb ∧ ∀ x : Str, x ≠ "__name__" → mb x = bootBuiltins x
  nolimit : base.NoLimit

structure Cx where
  prog : Program
  w : World
  K : PySem.W.Frag
  mg : Str → Option Value
  base : Heap
  A : Around
  N : List Str
  s₀ : Shared
  H₀ : Hp
  env : Env
  outer : List Env
  stack : List Env
  ex : List Addr
  fn : Str → Bool
  calm : Bool
  pn : List (Addr × Obj)
  xe : Value → Shared → Prop
noncomputable def frs (l : List Env) : List Addr := l.filterMap (·.frame)
noncomputable abbrev Cx.fs (X : Cx) : List Addr := frs X.outer

noncomputable def Vis (sc : Scope) (x : Str) : Prop := sc.names.lookup x = some .local ∨ sc.names.lookup x = some .cell ∨ sc.names.lookup x = some .free
noncomputable def Loc (sc : Scope) (x : Str) : Prop := sc.names.lookup x = some .local ∨ sc.names.lookup x = some .cell
noncomputable def Look (env : Env) (h : Heap) (m : Str → Option Value) (x : Str) (u : Value) : Prop :=
  (env.kindOf x = some .local ∧ m x = some u) ∨ ((env.kindOf x = some .cell ∨ env.kindOf x = some .free) ∧ ∃ c, env.cells.lookup x = some c ∧ h.IsCell c (some u))

structure Cx.Ok (X : Cx) : Prop where
  mod : Mod X.K X.mg X.base
  kind : X.env.scope.kind = .function
  glob : X.env.globals = mainGlobals
  blt : X.env.builtins = builtinsNs
  above : X.s₀.heap.objs.size ≤ X.env.locals
  inj : ∀ x y c, X.env.cells.lookup x = some c → X.env.cells.lookup y = some c → x = y
  has : ∀ x, (X.env.kindOf x = some .cell ∨ X.env.kindOf x = some .free) → ∃ c, X.env.cells.lookup x = some c
  cab : ∀ x c, X.fn x = true → X.env.cells.lookup x = some c → X.s₀.heap.objs.size ≤ c
  hd : X.calm = true → X.A.handled = none
  frames : X.A.frames = some X.stack
  stk : X.stack = X.outer ∨ (X.stack = X.env :: X.outer ∧ X.env.frame = some X.env.locals)
  exf : ∀ b ∈ X.ex, b ≠ X.env.locals ∧ ∀ x c, X.env.cells.lookup x = some c → c ≠ b
  bs : ∀ b o, X.base.get? b = some o → X.s₀.heap.get? b = some o ∧ X.H₀ b = none
  bsz : X.base.objs.size ≤ X.s₀.heap.objs.size
  noex : ∀ b o, X.base.get? b = some o → b ∉ X.ex
  exfs : ∀ b ∈ X.ex, b ∉ X.fs
  funs : X.s₀.heap.FunFrames X.base X.outer
  frf : ∀ b ∈ X.fs, X.H₀ b = none

structure Inv (X : Cx) (pins : List (Addr × Obj)) (σ : List (Option V)) (H : Hp) (s : Shared) : Prop where
  ok : X.Ok
  os : s.os = X.s₀.os
  bare : AllBare s.gens
  base : Un X.fs X.ex X.H₀ H X.s₀.heap s.heap
  loc : ∃ m, s.heap.Ns X.env.locals m ∧ ∀ (i : Nat) (x : Str) (v : V), X.N[i]? = some x → σ[i]? = some (some v) → Vis X.env.scope x → ∃ u, RelV v u ∧ Look X.env s.heap m x u
  cell : ∀ x c, X.env.cells.lookup x = some c → ∃ v, s.heap.IsCell c v
  free : H X.env.locals = none
  freeC : ∀ x c, X.env.cells.lookup x = some c → H c = none
  pin : ∀ p ∈ X.pn ++ pins, s.heap.get? p.1 = some p.2 ∧ H p.1 = none ∧ p.1 ≠ X.env.locals ∧ p.1 ∉ X.fs ∧ ∀ v, p.2.data ≠ .cell v
  hok : HOk X.prog X.w H s.heap
  len : σ.length = X.N.length

section
variable {X : Cx} {pins : List (Addr × Obj)} {σ : List (Option V)} {H H' : Hp} {s : Shared} {h' : Heap}

theorem Cx.Ok.nofr (ok : X.Ok) {b : Addr} {o : Obj} (e : X.base.get? b = some o) : b ∉ X.fs := fun hb => by
  have := (ok.funs.mem hb).1
  rw [e] at this; cases this
theorem Inv.bs (I : Inv X pins σ H s) : ∀ b o, X.base.get? b = some o → s.heap.get? b = some o ∧ H b = none := fun b o e =>
  ⟨I.base.keep b o (I.ok.bs b o e).1 (I.ok.bs b o e).2 (I.ok.nofr e) (I.ok.noex b o e), I.base.free b o (I.ok.bs b o e).1 (I.ok.bs b o e).2 (I.ok.noex b o e)⟩
theorem Inv.bk (I : Inv X pins σ H s) : ∀ b o, X.base.get? b = some o → s.heap.get? b = some o := fun b o e => (I.bs b o e).1
theorem Inv.mod (I : Inv X pins σ H s) : Mod X.K X.mg X.base := I.ok.mod
theorem Inv.kIn (I : Inv X pins σ H s) : X.K.In s.heap := I.ok.mod.kin.keeps I.bk
theorem Inv.nolimit (I : Inv X pins σ H s) : s.heap.NoLimit := I.ok.mod.nolimit.keeps I.bk
theorem Inv.lt (I : Inv X pins σ H s) : X.env.locals < s.heap.objs.size := let ⟨_, hn, _⟩ := I.loc; hn.lt
theorem Inv.sz (I : Inv X pins σ H s) : X.s₀.heap.objs.size ≤ s.heap.objs.size := Nat.le_trans I.ok.above (Nat.le_of_lt I.lt)
theorem Inv.nofs (I : Inv X pins σ H s) {a : Addr} (h : s.heap.objs.size ≤ a) : a ∉ X.fs := fun hb => by
  obtain ⟨_, o, ho, _⟩ := I.ok.funs.mem hb
  exact absurd (Nat.lt_of_lt_of_le (Heap.lt_size ho) (Nat.le_trans I.sz h)) (Nat.lt_irrefl _)
theorem Inv.cne (I : Inv X pins σ H s) : ∀ x c, X.env.cells.lookup x = some c → c ≠ X.env.locals := fun x c e z => by
  obtain ⟨v, o, ho, hd⟩ := I.cell x c e
  obtain ⟨m, ⟨o', es, ep, ho', hd', _⟩, _⟩ := I.loc
  rw [z, ho'] at ho; cases ho; rw [hd'] at hd; cases hd
theorem Inv.funs (I : Inv X pins σ H s) : s.heap.FunFrames X.base X.outer := by
  have all : ∀ (l : List Env), (∀ b ∈ frs l, b ∈ X.fs) → X.s₀.heap.FunFrames X.base l → s.heap.FunFrames X.base l := by
    intro l
    induction l with
    | nil => intro _ _; trivial
    | cons env r ih =>
      intro hs hl
      obtain ⟨hk, ⟨L, o, hf, hn, ho, hd⟩, hr⟩ := hl
      have hL : L ∈ X.fs := hs L (by unfold frs; rw [List.filterMap_cons, hf]; exact List.mem_cons_self)
      obtain ⟨sl, e⟩ := I.base.slot L o ho (I.ok.frf L hL) hL fun z => I.ok.exfs L z hL
      exact ⟨hk, ⟨L, _, hf, hn, e, hd⟩, ih (fun b hb => hs b (by unfold frs; rw [List.filterMap_cons, hf]; exact List.mem_cons_of_mem _ hb)) hr⟩
  exact all X.outer (fun _ hb => hb) I.ok.funs

theorem Inv.stack (I : Inv X pins σ H s) : s.heap.FunFrames X.base X.stack := by
  rcases I.ok.stk with e | ⟨e, hf⟩
  · rw [e]; exact I.funs
  · rw [e]
    obtain ⟨m, hn, _⟩ := I.loc
    refine .cons (by rw [I.ok.kind]; decide) hf hn ?_ I.funs
    exact Heap.get?_none_of_le (Nat.le_trans I.ok.bsz I.ok.above)
theorem Inv.stkSub (I : Inv X pins σ H s) : ∀ b ∈ frs X.stack, b ∈ X.env.locals :: X.fs := fun b hb => by
  rcases I.ok.stk with e | ⟨e, hf⟩
  · rw [e] at hb; exact List.mem_cons_of_mem _ hb
  · rw [e] at hb
    unfold frs at hb
    rw [List.filterMap_cons, hf] at hb
    exact hb
theorem Inv.stkFree (I : Inv X pins σ H s) : ∀ b ∈ frs X.stack, H b = none := fun b hb => by
  rcases List.mem_cons.mp (I.stkSub b hb) with e | hb
  · rw [e]; exact I.free
  · obtain ⟨_, o, ho, _⟩ := I.ok.funs.mem hb
    exact I.base.free b o ho (I.ok.frf b hb) fun z => I.ok.exfs b z hb

theorem Inv.step {g' : Array GenState} {t' : Nat} {d' : Drawn} {ch : List Addr} (I : Inv X pins σ H s)
    (hch : ∀ b ∈ ch, (b ∈ X.ex ∨ X.s₀.heap.objs.size ≤ b) ∧ b ≠ X.env.locals ∧ (∀ x c, X.env.cells.lookup x = some c → c ≠ b) ∧ ∀ p ∈ X.pn ++ pins, p.1 ≠ b)
    (keep : ∀ b o, b ≠ X.env.locals → b ∉ X.fs → b ∉ ch → s.heap.get? b = some o → H b = none → h'.get? b = some o)
    (slot : ∀ b o, b ≠ X.env.locals → b ∈ X.fs → b ∉ ch → s.heap.get? b = some o → H b = none → ∃ sl, h'.get? b = some { o with slots := sl }) (free : ∀ b o, b ∉ ch → s.heap.get? b = some o → H b = none → H' b = none)
    (there : ∀ b o, b ∉ ch → s.heap.get? b = some o → ∃ o', h'.get? b = some o')
    (tups : ∀ b xs, H b = some (.tup xs) → H' b = some (.tup xs)) (frzs : ∀ b o u, H b = some (.frz o u) → H' b = some (.frz o u)) (tbls : ∀ b ps, H b = some (.tbl ps) → ∃ more, H' b = some (.tbl (ps ++ more)))
    (ns : ∀ m, s.heap.Ns X.env.locals m → h'.Ns X.env.locals m) (hok : HOk X.prog X.w H' h') (hg : AllBare g') :
    Inv X pins σ H' { s with heap := h', gens := g', drawn := d', toks := t' } := by
  have neL : ∀ b o, X.s₀.heap.get? b = some o → b ≠ X.env.locals := fun b o e => Nat.ne_of_lt (Nat.lt_of_lt_of_le (Heap.lt_size e) I.ok.above)
  have neC : ∀ b o, X.s₀.heap.get? b = some o → b ∉ X.ex → b ∉ ch := fun b o e hx hb => by
    rcases (hch b hb).1 with z | z
    · exact hx z
    · exact absurd (Nat.lt_of_lt_of_le (Heap.lt_size e) z) (Nat.lt_irrefl _)
  have cellK : ∀ x c, X.env.cells.lookup x = some c → ∀ v, s.heap.IsCell c v → h'.IsCell c v := fun x c e v ⟨o, ho, hd⟩ => by
    have nch : c ∉ ch := fun z => (hch c z).2.2.1 x c e rfl
    by_cases hc : c ∈ X.fs
    · obtain ⟨sl, q⟩ := slot c o (I.cne x c e) hc nch ho (I.freeC x c e)
      exact ⟨_, q, hd⟩
    · exact ⟨o, keep c o (I.cne x c e) hc nch ho (I.freeC x c e), hd⟩
  refine ⟨I.ok, I.os, hg, ⟨fun b o e n hb hx => ?_, fun b o e n hb hx => ?_, fun b o e n hx => ?_, fun b o e hx => ?_, fun b xs e => tups b xs (I.base.tups b xs e), fun b o xs e => frzs b o xs (I.base.frzs b o xs e), fun b ps e => ?_⟩, ?_, fun x c e => ?_, ?_, fun x c e => ?_, fun p hp => ?_, hok, I.len⟩
  · exact keep b o (neL b o e) hb (neC b o e hx) (I.base.keep b o e n hb hx) (I.base.free b o e n hx)
  · obtain ⟨sl, e1⟩ := I.base.slot b o e n hb hx
    obtain ⟨sl', e2⟩ := slot b _ (neL b o e) hb (neC b o e hx) e1 (I.base.free b o e n hx)
    exact ⟨sl', e2⟩
  · obtain ⟨o', e1⟩ := I.base.there b o e hx
    exact free b o' (neC b o e hx) e1 (I.base.free b o e n hx)
  · obtain ⟨o', e1⟩ := I.base.there b o e hx
    exact there b o' (neC b o e hx) e1
  · obtain ⟨m1, e1⟩ := I.base.tbls b ps e
    obtain ⟨m2, e2⟩ := tbls b _ e1
    exact ⟨m1 ++ m2, by rw [e2, Array.append_assoc]⟩
  · obtain ⟨m, hn, hl⟩ := I.loc
    refine ⟨m, ns m hn, fun i x v e1 e2 e3 => ?_⟩
    obtain ⟨u, r, l⟩ := hl i x v e1 e2 e3
    refine ⟨u, r, ?_⟩
    rcases l with l | ⟨k, c, e, z⟩
    · exact .inl l
    · exact .inr ⟨k, c, e, cellK x c e _ z⟩
  · obtain ⟨v, z⟩ := I.cell x c e
    exact ⟨v, cellK x c e v z⟩
  · obtain ⟨m, ⟨o, _, _, ho, _⟩, _⟩ := I.loc
    exact free _ o (fun z => (hch _ z).2.1 rfl) ho I.free
  · obtain ⟨v, o, ho, hd⟩ := I.cell x c e
    exact free c o (fun z => (hch c z).2.2.1 x c e rfl) ho (I.freeC x c e)
  · obtain ⟨e, n, ne, nf, d⟩ := I.pin p hp
    have nch : p.1 ∉ ch := fun z => (hch p.1 z).2.2.2 p hp rfl
    exact ⟨keep p.1 p.2 ne nf nch e n, free p.1 p.2 nch e n, ne, nf, d⟩
theorem Inv.un {t' : Nat} (I : Inv X pins σ H s) (u : Un X.fs [] H H' s.heap h') (hok : HOk X.prog X.w H' h') : Inv X pins σ H' { s with heap := h', toks := t' } := by
  obtain ⟨m, ⟨o, es, ep, ho, r⟩, _⟩ := id I.loc
  obtain ⟨sl, hL⟩ := u.any ho I.free (by simp)
  exact I.step (g' := s.gens) (d' := s.drawn) (ch := []) (fun _ z => nomatch z) (fun b o _ hb _ e n => u.keep b o e n hb (by simp)) (fun b o _ hb _ e n => u.slot b o e n hb (by simp)) (fun b o _ e n => u.free b o e n (by simp)) (fun b o _ e => u.there b o e (by simp)) u.tups u.frzs u.tbls (fun m' hm => by
    obtain ⟨o', es', ep', ho', r'⟩ := hm
    rw [ho] at ho'; cases ho'
    exact ⟨_, es', ep', hL, r'⟩) hok I.bare
theorem Inv.call {g' : Array GenState} {t' : Nat} {d' : Drawn} {ch : List Addr} (I : Inv X pins σ H s) (u : Un (frs X.stack) ch H H' s.heap h') (hok : HOk X.prog X.w H' h') (hg : AllBare g')
    (hch : ∀ b ∈ ch, (b ∈ X.ex ∨ X.s₀.heap.objs.size ≤ b) ∧ b ≠ X.env.locals ∧ (∀ x c, X.env.cells.lookup x = some c → c ≠ b) ∧ ∀ p ∈ X.pn ++ pins, p.1 ≠ b) :
    Inv X pins σ H' { s with heap := h', gens := g', drawn := d', toks := t' } := by
  obtain ⟨m, ⟨o, es, ep, ho, r⟩, _⟩ := id I.loc
  obtain ⟨sl, hL⟩ := u.any ho I.free fun z => (hch _ z).2.1 rfl
  exact I.step (ch := ch) hch (fun b o hL hb hc e n => u.keep b o e n (fun z => (List.mem_cons.mp (I.stkSub b z)).elim hL hb) hc) (fun b o _ _ hc e n => u.any e n hc) (fun b o hc e n => u.free b o e n hc) (fun b o hc e => u.there b o e hc) u.tups u.frzs u.tbls (fun m' hm => by
    obtain ⟨o', es', ep', ho', r'⟩ := hm
    rw [ho] at ho'; cases ho'
    exact ⟨_, es', ep', hL, r'⟩) hok hg
theorem Inv.turned {t' : Nat} {it : Addr} (I : Inv X pins σ H s) (k : ∀ b o, b ≠ it → s.heap.get? b = some o → h'.get? b = some o) (hn : H it = none) (hL : it ≠ X.env.locals)
    (h1 : it ∈ X.ex ∨ X.s₀.heap.objs.size ≤ it) (h2 : ∀ x c, X.env.cells.lookup x = some c → c ≠ it) (h3 : ∀ p ∈ X.pn ++ pins, p.1 ≠ it) : Inv X pins σ H { s with heap := h', toks := t' } := by
  have nit : ∀ b u, H b = some u → b ≠ it := fun b u e z => by rw [z, hn] at e; cases e
  refine I.step (g' := s.gens) (d' := s.drawn) (ch := [it]) (fun b hb => ?_) (fun b o _ _ hc e _ => k b o (fun z => hc (by simp [z])) e) (fun b o _ _ hc e _ => ⟨o.slots, k b o (fun z => hc (by simp [z])) e⟩) (fun _ _ _ _ n => n)
    (fun b o hc e => ⟨o, k b o (fun z => hc (by simp [z])) e⟩) (fun _ _ e => e) (fun _ _ _ e => e) (fun b ps e => ⟨#[], by rw [e]; simp⟩) (fun m hm => ?_) (fun b u e => ?_) I.bare
  · have e : b = it := by simpa using hb
    subst e
    exact ⟨h1, hL, h2, h3⟩
  · obtain ⟨o, es, ep, ho, r⟩ := hm
    exact ⟨o, es, ep, k _ o (Ne.symm hL) ho, r⟩
  · refine (I.hok b u e).stay (fun c v hc q => k c v ?_ q) (fun _ q => q) fun _ _ q => q
    rcases hc with z | z
    · rw [z]; exact nit b u e
    · exact nit c _ z
theorem Inv.tok (I : Inv X pins σ H s) (t : Nat) : Inv X pins σ H { s with toks := t } := I.un (h' := s.heap) (t' := t) Un.refl I.hok
theorem Inv.kept {t' : Nat} (I : Inv X pins σ H s) (k : ∀ b u, s.heap.get? b = some u → h'.get? b = some u) : Inv X pins σ H { s with heap := h', toks := t' } := I.un (Un.kept k) (I.hok.kept k)
theorem Inv.laid {a : Addr} {o : HO} {t' : Nat} (I : Inv X pins σ H s) (k : ∀ b u, s.heap.get? b = some u → h'.get? b = some u) (hp : s.heap.objs.size ≤ a) (new : ObjOk X.prog X.w (upd H a o) h' a o) :
    Inv X pins σ (upd H a o) { s with heap := h', toks := t' } := I.un (Un.laid k hp (I.hok.fresh hp)) (I.hok.laid k hp new)
theorem Inv.write {x e : Addr} {o : HO} {t' : Nat} (I : Inv X pins σ H s) (mu : Mut (H x)) (he : e = x ∨ H e = some (.own x)) (k : ∀ b u, b ≠ e → s.heap.get? b = some u → h'.get? b = some u) (heo : ∃ u, h'.get? e = some u)
    (new : ObjOk X.prog X.w (upd H x o) h' x o) : Inv X pins σ (upd H x o) { s with heap := h', toks := t' } := I.un (Un.write mu he k heo) (I.hok.write mu he k heo new)
theorem Inv.pins_of {pins' : List (Addr × Obj)} (I : Inv X pins σ H s) (h : ∀ p ∈ pins', s.heap.get? p.1 = some p.2 ∧ H p.1 = none ∧ p.1 ≠ X.env.locals ∧ p.1 ∉ X.fs ∧ ∀ v, p.2.data ≠ .cell v) : Inv X pins' σ H s :=
  ⟨I.ok, I.os, I.bare, I.base, I.loc, I.cell, I.free, I.freeC, fun p hp => (List.mem_append.mp hp).elim (fun z => I.pin p (List.mem_append_left _ z)) (h p), I.hok, I.len⟩

theorem nodup_ix {N : List Str} (hN : N.Nodup) {i j : Nat} {x : Str} (a : N[i]? = some x) (b : N[j]? = some x) : i = j := by
  obtain ⟨h1, e1⟩ := List.getElem?_eq_some_iff.mp a
  obtain ⟨h2, e2⟩ := List.getElem?_eq_some_iff.mp b
  exact (List.getElem_inj hN).mp (e1.trans e2.symm)

theorem store_ok2 {M : Model} {A : Around} {E : Value → Shared → Prop} {i : Nat} {x : Str} {v : V} {u : Value} {Q : Unit → Shared → Prop} (I : Inv X pins σ H s) (hN : X.N.Nodup) (hi : X.N[i]? = some x) (hx : Loc X.env.scope x) (r : RelV v u)
    (h : ∀ s', Inv X pins (σ.set i (some v)) H s' → (∃ a, Heap.SameBut a s.heap s'.heap ∧ (a = X.env.locals ∨ X.env.cells.lookup x = some a)) → Q () s') (hf : X.fn x = true ∨ X.env.scope.names.lookup x = some .local := by first | exact .inl rfl | exact .inr rfl | assumption) : wpAny M A (storeName X.env x u) Q E s := by
  obtain ⟨m, hn, hl⟩ := id I.loc
  have hcls : (X.env.scope.kind == .class || (X.env.scope.kind == .module && X.env.locals != X.env.globals)) = false := by rw [I.ok.kind]; rfl
  have hiσ : i < σ.length := by rw [I.len]; exact (List.getElem?_eq_some_iff.mp hi).1
  have cne := I.cne
  have tracked : ∀ {a : Addr} {h' : Heap}, (∃ o, s.heap.get? a = some o ∧ H a = none) → Heap.SameBut a s.heap h' → HOk X.prog X.w H h' := fun {a h'} ha hs b ob e => by
    obtain ⟨_, _, hfree⟩ := ha
    refine (I.hok b ob e).stay (fun c w' hc q => (hs.2 c ?_).trans q) (fun _ q => q) fun _ _ q => q
    rintro rfl
    rcases hc with rfl | hc
    · rw [hfree] at e; cases e
    · rw [hfree] at hc; cases hc
  rcases hx with hk | hk
  · refine wpAny_storeName_local hk hn (fun h' hn' hs => ?_) hcls
    obtain ⟨oL, _, _, hoL, _⟩ := id hn
    refine h _ ⟨I.ok, I.os, I.bare, ⟨fun b o e n hb hx => ?_, fun b o e n hb hx => ?_, I.base.free, fun b o e hx => ?_, I.base.tups, I.base.frzs, I.base.tbls⟩, ⟨_, hn', fun j y v' e1 e2 e3 => ?_⟩, fun y c e => ?_, I.free, I.freeC, fun p hp => ?_, tracked ⟨oL, hoL, I.free⟩ hs, by simpa using I.len⟩ ⟨_, hs, .inl rfl⟩
    · exact (hs.2 b (Nat.ne_of_lt (Nat.lt_of_lt_of_le (Heap.lt_size e) I.ok.above))).trans (I.base.keep b o e n hb hx)
    · obtain ⟨sl, e1⟩ := I.base.slot b o e n hb hx
      exact ⟨sl, (hs.2 b (Nat.ne_of_lt (Nat.lt_of_lt_of_le (Heap.lt_size e) I.ok.above))).trans e1⟩
    · obtain ⟨o', e1⟩ := I.base.there b o e hx
      exact ⟨o', (hs.2 b (Nat.ne_of_lt (Nat.lt_of_lt_of_le (Heap.lt_size e) I.ok.above))).trans e1⟩
    · by_cases hj : j = i
      · subst hj
        rw [hi] at e1; cases e1
        rw [List.getElem?_set_self hiσ] at e2
        cases e2
        exact ⟨u, r, .inl ⟨hk, by simp⟩⟩
      · rw [List.getElem?_set_ne (Ne.symm hj)] at e2
        obtain ⟨u', r', q⟩ := hl j y v' e1 e2 e3
        refine ⟨u', r', ?_⟩
        rcases q with ⟨k, e⟩ | ⟨k, c, e, z⟩
        · refine .inl ⟨k, ?_⟩
          have : y ≠ x := fun e => hj (nodup_ix hN e1 (e ▸ hi))
          simp [this, e]
        · exact .inr ⟨k, c, e, z.sameBut hs (cne y c e)⟩
    · obtain ⟨w', z⟩ := I.cell y c e
      exact ⟨w', z.sameBut hs (cne y c e)⟩
    · obtain ⟨e, n, ne, nf, d⟩ := I.pin p hp
      exact ⟨(hs.2 p.1 ne).trans e, n, ne, nf, d⟩
  · have hfn : X.fn x = true := by
      rcases hf with z | z
      · exact z
      · rw [z] at hk; cases hk
    obtain ⟨c, hc⟩ := I.ok.has x (.inl hk)
    obtain ⟨w', z⟩ := I.cell x c hc
    refine wpAny_storeName_cell I.ok.kind hk hc z (fun h' hc' hs => ?_)
    obtain ⟨oc, hoc, hocd⟩ := id z
    refine h { s with heap := h' } ⟨I.ok, I.os, I.bare, ⟨fun b o e n hb hx => ?_, fun b o e n hb hx => ?_, I.base.free, fun b o e hx => ?_, I.base.tups, I.base.frzs, I.base.tbls⟩, ⟨m, hn.sameBut hs (Ne.symm (cne x c hc)), fun j y v' e1 e2 e3 => ?_⟩, fun y c' e => ?_, I.free, I.freeC, fun p hp => ?_, tracked ⟨oc, hoc, I.freeC x c hc⟩ hs, by simpa using I.len⟩ ⟨c, hs, .inr hc⟩
    · exact (hs.2 b (Nat.ne_of_lt (Nat.lt_of_lt_of_le (Heap.lt_size e) (I.ok.cab x c hfn hc)))).trans (I.base.keep b o e n hb hx)
    · obtain ⟨sl, e1⟩ := I.base.slot b o e n hb hx
      exact ⟨sl, (hs.2 b (Nat.ne_of_lt (Nat.lt_of_lt_of_le (Heap.lt_size e) (I.ok.cab x c hfn hc)))).trans e1⟩
    · obtain ⟨o', e1⟩ := I.base.there b o e hx
      exact ⟨o', (hs.2 b (Nat.ne_of_lt (Nat.lt_of_lt_of_le (Heap.lt_size e) (I.ok.cab x c hfn hc)))).trans e1⟩
    · by_cases hj : j = i
      · subst hj
        rw [hi] at e1; cases e1
        rw [List.getElem?_set_self hiσ] at e2
        cases e2
        exact ⟨u, r, .inr ⟨.inl hk, c, hc, hc'⟩⟩
      · rw [List.getElem?_set_ne (Ne.symm hj)] at e2
        obtain ⟨u', r', q⟩ := hl j y v' e1 e2 e3
        refine ⟨u', r', ?_⟩
        rcases q with q | ⟨k, c', e, z'⟩
        · exact .inl q
        · refine .inr ⟨k, c', e, z'.sameBut hs ?_⟩
          rintro rfl
          exact hj (nodup_ix hN e1 (I.ok.inj _ _ _ e hc ▸ hi))
    · by_cases hcc : c' = c
      · subst hcc; exact ⟨_, hc'⟩
      · obtain ⟨w2, z2⟩ := I.cell y c' e
        exact ⟨w2, z2.sameBut hs hcc⟩
    · obtain ⟨e, n, ne, nf, d⟩ := I.pin p hp
      refine ⟨(hs.2 p.1 ?_).trans e, n, ne, nf, d⟩
      intro q
      rw [q, hoc] at e
      have q' : oc = p.2 := Option.some.inj e
      exact d w' (by rw [← q']; exact hocd)
theorem store_ok {M : Model} {A : Around} {E : Value → Shared → Prop} {i : Nat} {x : Str} {v : V} {u : Value} {Q : Unit → Shared → Prop} (I : Inv X pins σ H s) (hN : X.N.Nodup) (hi : X.N[i]? = some x) (hx : Loc X.env.scope x) (r : RelV v u)
    (h : ∀ s', Inv X pins (σ.set i (some v)) H s' → Q () s') (hf : X.fn x = true ∨ X.env.scope.names.lookup x = some .local := by first | exact .inl rfl | exact .inr rfl | assumption) : wpAny M A (storeName X.env x u) Q E s :=
  store_ok2 I hN hi hx r (fun s' I' _ => h s' I') hf
theorem Inv.call' {s' : Shared} {ch : List Addr} (I : Inv X pins σ H s) (ho : s'.os = s.os) (u : Un (frs X.stack) ch H H' s.heap s'.heap) (hok : HOk X.prog X.w H' s'.heap) (hg : AllBare s'.gens)
    (hch : ∀ b ∈ ch, (b ∈ X.ex ∨ X.s₀.heap.objs.size ≤ b) ∧ b ≠ X.env.locals ∧ (∀ x c, X.env.cells.lookup x = some c → c ≠ b) ∧ ∀ p ∈ X.pn ++ pins, p.1 ≠ b) : Inv X pins σ H' s' := by
  obtain ⟨h', g', d', t', o'⟩ := s'
  have e : o' = s.os := ho
  subst e
  exact I.call (g' := g') (t' := t') (d' := d') u hok hg hch
end

noncomputable abbrev XK := Value → Option Addr → Hp → Prop
noncomputable abbrev St := List (Option V)
noncomputable abbrev VK := V → Hp → Prop
noncomputable abbrev TE := St → Hp → VK → Prop
noncomputable abbrev TT := St → Hp → (Bool → Hp → Prop) → Prop
noncomputable abbrev TA := St → Hp → (List V → Hp → Prop) → Prop
structure Ends where
  nx : St → Hp → Prop
  rt : VK
  bk : St → Hp → Prop := fun _ _ => False
  ct : St → Hp → Prop := fun _ _ => False
noncomputable abbrev TS := Ends → St → Hp → Prop

noncomputable def EP (X : Cx) (pins : List (Addr × Obj)) (σ : St) (Q : VK) (u : Value) (s' : Shared) : Prop := ∃ v H', Inv X pins σ H' s' ∧ RelV v u ∧ Q v H'
noncomputable def TP (X : Cx) (pins : List (Addr × Obj)) (σ : St) (Q : Bool → Hp → Prop) (b : Bool) (s' : Shared) : Prop := ∃ H', Inv X pins σ H' s' ∧ Q b H'
noncomputable def AP (X : Cx) (pins : List (Addr × Obj)) (σ : St) (Q : List V → Hp → Prop) (us : List Value) (s' : Shared) : Prop := ∃ vs H', Inv X pins σ H' s' ∧ Vals vs us ∧ Q vs H'
noncomputable def SP (X : Cx) (pins : List (Addr × Obj)) (D : Ends) (f : Flow) (s' : Shared) : Prop :=
  match f with
  | .next => ∃ σ' H', Inv X pins σ' H' s' ∧ D.nx σ' H'
  | .brk => ∃ σ' H', Inv X pins σ' H' s' ∧ D.bk σ' H'
  | .cont => ∃ σ' H', Inv X pins σ' H' s' ∧ D.ct σ' H'
  | .ret u => ∃ v σ' H', Inv X pins σ' H' s' ∧ RelV v u ∧ D.rt v H'

noncomputable def PE (X : Cx) (e : Expr) (t : TE) : Prop :=
  ∀ (pins : List (Addr × Obj)) (s : Shared) (σ : St) (H : Hp) (Q : VK), Inv X pins σ H s → t σ H Q → wpAny (model X.prog X.w) X.A (eval e X.env) (EP X pins σ Q) X.xe s
noncomputable def PT (X : Cx) (e : Expr) (t : TT) : Prop :=
  ∀ (pins : List (Addr × Obj)) (s : Shared) (σ : St) (H : Hp) (Q : Bool → Hp → Prop), Inv X pins σ H s → t σ H Q → wpAny (model X.prog X.w) X.A (isTrue e X.env (eval e X.env)) (TP X pins σ Q) X.xe s
noncomputable def PW (X : Cx) (e : Expr) (t : TT) : Prop :=
  ∀ (whole : Sem Value) (pins : List (Addr × Obj)) (s : Shared) (σ : St) (H : Hp) (Q : Bool → Hp → Prop), Inv X pins σ H s → t σ H Q → wpAny (model X.prog X.w) X.A (isTrue e X.env whole) (TP X pins σ Q) X.xe s
theorem PW.pt {X : Cx} {e : Expr} {t : TT} (h : PW X e t) : PT X e t := h _
noncomputable def PA (X : Cx) (es : List Expr) (t : TA) : Prop :=
  ∀ (pos : Pos) (pins : List (Addr × Obj)) (s : Shared) (σ : St) (H : Hp) (Q : List V → Hp → Prop), Inv X pins σ H s → t σ H Q → wpAny (model X.prog X.w) X.A (spliced (backTo pos (starEach es X.env))) (AP X pins σ Q) X.xe s
noncomputable def PS (X : Cx) (st : Stmt) (t : TS) : Prop :=
  ∀ (pins : List (Addr × Obj)) (s : Shared) (σ : St) (H : Hp) (D : Ends), Inv X pins σ H s → t D σ H → wpAny (model X.prog X.w) X.A (exec st X.env) (SP X pins D) X.xe s
noncomputable def PSs (X : Cx) (st : List Stmt) (t : TS) : Prop :=
  ∀ (pins : List (Addr × Obj)) (s : Shared) (σ : St) (H : Hp) (D : Ends), Inv X pins σ H s → t D σ H → wpAny (model X.prog X.w) X.A (execs st X.env) (SP X pins D) X.xe s
theorem thn {α : Type} {t : Sem α} {Q Q' : α → Shared → Prop} {M : Model} {A : Around} {E : Value → Shared → Prop} {s : Shared} (h : wpAny M A t Q E s) (hQ : ∀ a s, Q a s → Q' a s) : wpAny M A t Q' E s := wpAny_mono h hQ fun _ _ x => x
end L2

namespace L2
open PySem PySem.Spec PyProof.Rows
section
variable {X : Cx}

noncomputable def tVar (i : Nat) : TE := fun σ H Q => ∃ v, σ[i]? = some (some v) ∧ Q v H
noncomputable def tC (v : V) : TE := fun _ H Q => Q v H
theorem pe_var {i : Nat} {x : Str} {pos : Pos} (hN : X.N[i]? = some x) (hv : Vis X.env.scope x) (hd : (x == ("__debug__" : Str)) = false := by decide) (hcd : (x == ("__classdict__" : Str)) = false := by decide) : PE X (.Name x pos) (tVar i) := by
  intro pins s σ H Q I h
  obtain ⟨v, e, h⟩ := h
  obtain ⟨m, hn, hl⟩ := I.loc
  obtain ⟨u, r, l⟩ := hl i x v hN e hv
  have fin : EP X pins σ Q u s := ⟨v, H, I, r, h⟩
  rcases l with ⟨hk, hm⟩ | ⟨hk, c, hc, hcell⟩
  · exact wpAny_Name (wpAny_loadName_local I.ok.kind hk hn hm fin) hd
  · rcases hk with hk | hk
    · exact wpAny_Name (wpAny_loadName_cell I.ok.kind hk hc hcell fin) hd
    · exact wpAny_Name (wpAny_loadName_free I.ok.kind hk hc hcell fin hcd) hd
theorem pe_int {i j pos} : PE X (.Constant (.int i) j pos) (tC (.int i)) := fun _ _ _ H _ I h => wpAny_Constant_int ⟨.int i, H, I.tok _, ⟨_, rfl⟩, h⟩
theorem pe_bl {b j pos} : PE X (.Constant (.bool b) j pos) (tC (.bl b)) := fun _ _ _ H _ I h => Constant_bool ⟨.bl b, H, I, rfl, h⟩
theorem pe_non {j pos} : PE X (.Constant .none j pos) (tC .non) := fun _ _ _ H _ I h => Constant_none ⟨.non, H, I, rfl, h⟩
theorem pe_str {x j pos} : PE X (.Constant (.str x) j pos) (tC (.str x)) := fun _ _ _ H _ I h => Calls.Constant_str ⟨.str x, H, I.tok _, ⟨_, rfl⟩, h⟩

noncomputable def Gl (X : Cx) (x : Str) : Prop := X.env.kindOf x = some .globalImplicit
theorem ld_glob {E : Value → Shared → Prop} {pins : List (Addr × Obj)} {s : Shared} {σ : St} {H : Hp} {x : Str} {u : Value} {pos : Pos} {Q : Value → Shared → Prop} (I : Inv X pins σ H s) (hg : Gl X x) (hm : X.mg x = some u) (h : Q u s)
    (hd : (x == ("__debug__" : Str)) = false := by decide) : wpAny (model X.prog X.w) X.A (eval (.Name x pos) X.env) Q E s :=
  Calls.Name_function_global I.ok.kind hg (Calls.loadGlobal_global (by rw [I.ok.glob]; exact I.mod.glob.keeps I.bk) hm h) hd
theorem ld_blt {E : Value → Shared → Prop} {pins : List (Addr × Obj)} {s : Shared} {σ : St} {H : Hp} {x : Str} {u : Value} {pos : Pos} {Q : Value → Shared → Prop} (I : Inv X pins σ H s) (hg : Gl X x) (hm : X.mg x = none) (hv : bootBuiltins x = some u) (h : Q u s)
    (hn : x ≠ "__name__" := by decide) (hd : (x == ("__debug__" : Str)) = false := by decide) : wpAny (model X.prog X.w) X.A (eval (.Name x pos) X.env) Q E s := by
  obtain ⟨mb, h1, h2⟩ := I.mod.blt
  exact Calls.Name_function_global I.ok.kind hg (Calls.loadGlobal_builtin (by rw [I.ok.glob]; exact I.mod.glob.keeps I.bk) hm (by rw [I.ok.blt]; exact h1.keeps I.bk) ((h2 x hn).trans hv) h) hd
theorem pe_glob {x : Str} {v : V} {u : Value} {pos : Pos} (hg : Gl X x) (hm : X.mg x = some u) (r : RelV v u) (hd : (x == ("__debug__" : Str)) = false := by decide) : PE X (.Name x pos) (tC v) :=
  fun _ _ _ H _ I h => ld_glob I hg hm ⟨v, H, I, r, h⟩ hd
theorem pe_bltn {x : Str} {v : V} {u : Value} {pos : Pos} (hg : Gl X x) (hm : X.mg x = none) (hv : bootBuiltins x = some u) (r : RelV v u) (hn : x ≠ "__name__" := by decide) (hd : (x == ("__debug__" : Str)) = false := by decide) : PE X (.Name x pos) (tC v) :=
  fun _ _ _ H _ I h => ld_blt I hg hm hv ⟨v, H, I, r, h⟩ hn hd

variable {a b : Expr} {ta tb : TE} {pos : Pos}
noncomputable def tB (t : TE) : TT := fun σ H Q => t σ H fun x H1 => ∃ c, x = .bl c ∧ Q c H1
theorem pt_val {e : Expr} {t : TE} (h : PE X e t) (he : ∀ whole, isTrue e X.env whole = (do let v ← whole; standAt e.pos; holding [v] (truthy v)) := by intro _; rfl) : PT X e (tB t) := by
  intro pins s σ H Q I hw
  refine isTrue_plain (thn (h pins s σ H _ I hw) fun v s1 ⟨x, H1, I1, r1, q1⟩ => ?_) (he _)
  obtain ⟨d, rfl, q⟩ := q1
  cases r1
  exact wpAny_truthy_bool ⟨H1, I1, q⟩

variable {tA tB' : TT} {rest : List Expr}
noncomputable def tAnd (t u : TT) : TT := fun σ H Q => t σ H fun c H1 => if c = true then u σ H1 Q else Q false H1
noncomputable def tOr (t u : TT) : TT := fun σ H Q => t σ H fun c H1 => if c = true then Q true H1 else u σ H1 Q
noncomputable def tNot (t : TT) : TT := fun σ H Q => t σ H fun c H1 => Q (!c) H1
theorem pw_and1 (ha : PT X a tA) : PW X (.BoolOp .And [a] pos) tA := by
  intro wh pins s σ H Q I h
  refine isTrue_and (thn (ha pins s σ H Q I h) fun c s1 e => ?_)
  cases c with
  | true => exact isTrue_and_nil e
  | false => exact e
theorem pw_or1 (ha : PT X a tA) : PW X (.BoolOp .Or [a] pos) tA := by
  intro wh pins s σ H Q I h
  refine isTrue_or (thn (ha pins s σ H Q I h) fun c s1 e => ?_)
  cases c with
  | false => exact isTrue_or_nil e
  | true => exact e
theorem pw_and (ha : PT X a tA) (hb : PW X (.BoolOp .And (b :: rest) pos) tB') : PW X (.BoolOp .And (a :: b :: rest) pos) (tAnd tA tB') := by
  intro wh pins s σ H Q I h
  refine isTrue_and (thn (ha pins s σ H _ I h) fun c s1 ⟨H1, I1, q1⟩ => ?_)
  cases c with
  | true => exact hb wh pins s1 σ H1 Q I1 q1
  | false => exact ⟨H1, I1, q1⟩
theorem pw_or (ha : PT X a tA) (hb : PW X (.BoolOp .Or (b :: rest) pos) tB') : PW X (.BoolOp .Or (a :: b :: rest) pos) (tOr tA tB') := by
  intro wh pins s σ H Q I h
  refine isTrue_or (thn (ha pins s σ H _ I h) fun c s1 ⟨H1, I1, q1⟩ => ?_)
  cases c with
  | true => exact ⟨H1, I1, q1⟩
  | false => exact hb wh pins s1 σ H1 Q I1 q1
theorem pt_not (ha : PT X a tA) : PT X (.UnaryOp .Not a pos) (tNot tA) := by
  intro pins s σ H Q I h
  exact isTrue_not (ha pins s σ H (fun c H1 => Q (!c) H1) I h)
noncomputable def tAndV (ta tb : TE) : TE := fun σ H Q => ta σ H fun x H1 => ∃ c, x = .bl c ∧ if c = true then tb σ H1 Q else Q (.bl false) H1
noncomputable def tOrV (ta tb : TE) : TE := fun σ H Q => ta σ H fun x H1 => ∃ c, x = .bl c ∧ if c = true then Q (.bl true) H1 else tb σ H1 Q
noncomputable def tNotV (ta : TE) : TE := fun σ H Q => ta σ H fun x H1 => ∃ c, x = .bl c ∧ Q (.bl (!c)) H1
theorem pe_one {op} {t : TE} (h : PE X a t) : PE X (.BoolOp op [a] pos) t := fun pins s σ H Q I hw => BoolOp_one (h pins s σ H Q I hw)
theorem pe_and (ha : PE X a ta) (hb : PE X (.BoolOp .And (b :: rest) pos) tb) : PE X (.BoolOp .And (a :: b :: rest) pos) (tAndV ta tb) := by
  intro pins s σ H Q I h
  refine BoolOp_and (thn (ha pins s σ H _ I h) fun v s1 ⟨x, H1, I1, r1, q1⟩ => ?_)
  obtain ⟨c, rfl, q1⟩ := q1
  cases r1
  refine wpAny_truthy_bool ?_
  cases c with
  | true => exact hb pins s1 σ H1 Q I1 q1
  | false => exact ⟨.bl false, H1, I1, rfl, q1⟩
theorem pe_or (ha : PE X a ta) (hb : PE X (.BoolOp .Or (b :: rest) pos) tb) : PE X (.BoolOp .Or (a :: b :: rest) pos) (tOrV ta tb) := by
  intro pins s σ H Q I h
  refine BoolOp_or (thn (ha pins s σ H _ I h) fun v s1 ⟨x, H1, I1, r1, q1⟩ => ?_)
  obtain ⟨c, rfl, q1⟩ := q1
  cases r1
  refine wpAny_truthy_bool ?_
  cases c with
  | false => exact hb pins s1 σ H1 Q I1 q1
  | true => exact ⟨.bl true, H1, I1, rfl, q1⟩
theorem pe_not (ha : PE X a ta) : PE X (.UnaryOp .Not a pos) (tNotV ta) := by
  intro pins s σ H Q I h
  refine UnaryOp_ (thn (ha pins s σ H _ I h) fun v s1 ⟨x, H1, I1, r1, q1⟩ => ?_)
  obtain ⟨c, rfl, q1⟩ := q1
  cases r1
  exact not_of (wpAny_truthy_bool ⟨.bl (!c), H1, I1, rfl, q1⟩)
noncomputable def tIf (t : TT) (ta tb : TE) : TE := fun σ H Q => t σ H fun c H1 => if c = true then ta σ H1 Q else tb σ H1 Q
theorem pe_ifExp {c : Expr} (hc : PT X c tA) (ha : PE X a ta) (hb : PE X b tb) : PE X (.IfExp c a b pos) (tIf tA ta tb) := by
  intro pins s σ H Q I h
  refine wpAny_IfExp (thn (hc pins s σ H _ I h) fun d s1 ⟨H1, I1, q1⟩ => ?_)
  cases d with
  | true => exact ha pins s1 σ H1 Q I1 q1
  | false => exact hb pins s1 σ H1 Q I1 q1
end
end L2

namespace L2
open PySem PySem.Spec PyProof.Rows

noncomputable def SqL (K : PySem.W.Frag) (H : Hp) (a : Addr) (xs : List V) : Prop :=
  Rd H a (.lst xs) ∨
    ∃ (o : Obj) (its : Array Value) (n : Nat), K.lookup a = some o ∧ o.cls = .type "list" ∧ o.dict = none ∧ o.data = .seq its n ∧ its.size ≤ sizeLine ∧ Vals xs its.toList
noncomputable def SqT (K : PySem.W.Frag) (H : Hp) (a : Addr) (xs : List V) : Prop :=
  Rd H a (.tup xs) ∨
    ∃ (o : Obj) (its : Array Value) (n : Nat), K.lookup a = some o ∧ o.cls = .type "tuple" ∧ o.data = .seq its n ∧ its.size ≤ sizeLine ∧ Vals xs its.toList
noncomputable def absV : Value → Option V
  | .none => some .non
  | .bool b => some (.bl b)
  | .int i _ => some (.int i)
  | .str x _ => some (.str x)
  | .bytes b _ => some (.byt b)
  | .float b _ => some (.flt b)
  | .ref a => some (.ref a)
  | .type n => some (.ty n)
  | _ => none
theorem RelV.abs {x : V} {u : Value} (r : RelV x u) : absV u = some x := by
  cases x with
  | non => cases r; rfl
  | bl _ => cases r; rfl
  | int _ => obtain ⟨t, rfl⟩ := r; rfl
  | str _ => obtain ⟨t, rfl⟩ := r; rfl
  | byt _ => obtain ⟨t, rfl⟩ := r; rfl
  | flt _ => obtain ⟨t, rfl⟩ := r; rfl
  | ref _ => cases r; rfl
  | ty _ => cases r; rfl
theorem RelV.inj {x y : V} {u : Value} (r : RelV x u) (q : RelV y u) : x = y := Option.some.inj (r.abs.symm.trans q.abs)
theorem Vals.inj : ∀ {xs ys : List V} {us : List Value}, Vals xs us → Vals ys us → xs = ys
  | _, _, _, .nil, .nil => rfl
  | _, _, _, .cons r t, .cons r' t' => by rw [r.inj r', Vals.inj t t']
section
variable {X : Cx} {pins : List (Addr × Obj)} {σ : St} {H : Hp} {s : Shared} {a : Addr} {xs ys : List V}
theorem SqL.of {K : PySem.W.Frag} (h : H a = some (.lst xs)) : SqL K H a xs := .inl (.inl h)
theorem SqT.of {K : PySem.W.Frag} (h : H a = some (.tup xs)) : SqT K H a xs := .inl (.inl h)
theorem Inv.list (I : Inv X pins σ H s) (h : SqL X.K H a xs) : ∃ its : List Value, Vals xs its ∧ PlainL s.heap a its.toArray ∧ xs.length ≤ sizeLine := by
  rcases h with h | ⟨o, its, n, hk, hc, hd, hs, hz, r⟩
  · obtain ⟨z, its, n, r, e⟩ := h.ok I.hok
    exact ⟨its, r, ⟨_, n, e, rfl, rfl, rfl⟩, z⟩
  · refine ⟨its.toList, r, ⟨o, n, I.kIn a o hk, hc, hd, by simpa using hs⟩, ?_⟩
    have e := r.length
    simp only [Array.length_toList] at e
    omega
theorem Inv.tuple (I : Inv X pins σ H s) (h : SqT X.K H a xs) : ∃ its : List Value, Vals xs its ∧ IsTup s.heap a its.toArray ∧ xs.length ≤ sizeLine := by
  rcases h with h | ⟨o, its, n, hk, hc, hs, hz, r⟩
  · obtain ⟨z, its, r, p⟩ := h.ok I.hok
    exact ⟨its, r, p, z⟩
  · refine ⟨its.toList, r, ⟨o, I.kIn a o hk, hc, n, by simpa using hs⟩, ?_⟩
    have e := r.length
    simp only [Array.length_toList] at e
    omega
theorem Inv.list_inj (I : Inv X pins σ H s) (h : SqL X.K H a xs) (h' : SqL X.K H a ys) : xs = ys := by
  obtain ⟨its, r, ⟨o, n, e, _, _, d⟩, _⟩ := I.list h
  obtain ⟨its', r', ⟨o', n', e', _, _, d'⟩, _⟩ := I.list h'
  rw [e] at e'; cases e'
  rw [d] at d'
  injection d' with d1 _
  have : its = its' := by simpa using congrArg Array.toList d1
  subst this
  exact r.inj r'
end

noncomputable abbrev Cx.wish (X : Cx) (E : Value → Shared → Prop) : Cx := { X with xe := E }
noncomputable abbrev Cx.nox (X : Cx) : Cx := X.wish fun _ _ => False
theorem Cx.Ok.wish {X : Cx} (ok : X.Ok) (E : Value → Shared → Prop) : (X.wish E).Ok :=
  ⟨ok.mod, ok.kind, ok.glob, ok.blt, ok.above, ok.inj, ok.has, ok.cab, ok.hd, ok.frames, ok.stk, ok.exf, ok.bs, ok.bsz, ok.noex, ok.exfs, ok.funs, ok.frf⟩
theorem Cx.Ok.unwish {X : Cx} {E : Value → Shared → Prop} (ok : (X.wish E).Ok) : X.Ok :=
  ⟨ok.mod, ok.kind, ok.glob, ok.blt, ok.above, ok.inj, ok.has, ok.cab, ok.hd, ok.frames, ok.stk, ok.exf, ok.bs, ok.bsz, ok.noex, ok.exfs, ok.funs, ok.frf⟩
section
variable {X : Cx} {pins : List (Addr × Obj)} {σ : St} {H : Hp} {s : Shared} {E : Value → Shared → Prop}
theorem Inv.wish (I : Inv X pins σ H s) (E : Value → Shared → Prop) : Inv (X.wish E) pins σ H s := ⟨I.ok.wish E, I.os, I.bare, I.base, I.loc, I.cell, I.free, I.freeC, I.pin, I.hok, I.len⟩
theorem Inv.unwish (I : Inv (X.wish E) pins σ H s) : Inv X pins σ H s := ⟨I.ok.unwish, I.os, I.bare, I.base, I.loc, I.cell, I.free, I.freeC, I.pin, I.hok, I.len⟩
theorem SP.unwish {D : Ends} {f : Flow} {s' : Shared} (h : SP (X.wish E) pins D f s') : SP X pins D f s' := by
  cases f with
  | next => obtain ⟨σ', H', I, q⟩ := h; exact ⟨σ', H', I.unwish, q⟩
  | brk => obtain ⟨σ', H', I, q⟩ := h; exact ⟨σ', H', I.unwish, q⟩
  | cont => obtain ⟨σ', H', I, q⟩ := h; exact ⟨σ', H', I.unwish, q⟩
  | ret u => obtain ⟨v, σ', H', I, r, q⟩ := h; exact ⟨v, σ', H', I.unwish, r, q⟩
theorem PE.nox {e : Expr} {t : TE} (h : PE X.nox e t) : PE X e t := fun pins s σ H Q I hw =>
  wpAny_mono (h pins s σ H Q (I.wish _) hw) (fun _ _ ⟨v, H', I', r, q⟩ => ⟨v, H', I'.unwish, r, q⟩) fun _ _ z => False.elim z
theorem PT.nox {e : Expr} {t : TT} (h : PT X.nox e t) : PT X e t := fun pins s σ H Q I hw =>
  wpAny_mono (h pins s σ H Q (I.wish _) hw) (fun _ _ ⟨H', I', q⟩ => ⟨H', I'.unwish, q⟩) fun _ _ z => False.elim z
theorem PSs.nox {st : List Stmt} {t : TS} (h : PSs X.nox st t) : PSs X st t := fun pins s σ H D I hw =>
  wpAny_mono (h pins s σ H D (I.wish _) hw) (fun _ _ q => q.unwish) fun _ _ z => False.elim z
end

section
variable {X : Cx} {st : Stmt} {rest : List Stmt} {t u : TS} {e : Expr} {te : TE} {pos : Pos}
noncomputable def tNext : TS := fun D σ H => D.nx σ H
noncomputable def tSeq (t u : TS) : TS := fun D σ H => t { D with nx := u D } σ H
theorem pss_nil : PSs X [] tNext := fun _ _ σ H _ I h => wpAny_execs_nil ⟨σ, H, I, h⟩
theorem pss_cons (h1 : PS X st t) (h2 : PSs X rest u) : PSs X (st :: rest) (tSeq t u) := by
  intro pins s σ H D I h
  refine wpAny_execs_cons (thn (h1 pins s σ H { D with nx := u D } I h) fun f s1 q => ?_)
  cases f with
  | next =>
    obtain ⟨σ', H', I', q⟩ := q
    exact h2 pins s1 σ' H' D I' q
  | ret v => exact q
  | brk => exact q
  | cont => exact q
theorem pss_one (h1 : PS X st t) : PSs X [st] t := by
  intro pins s σ H D I h
  refine wpAny_execs_cons (thn (h1 pins s σ H D I h) fun f s1 q => ?_)
  cases f with
  | next => exact wpAny_execs_nil q
  | ret v => exact q
  | brk => exact q
  | cont => exact q
theorem Inv.quiet {pins : List (Addr × Obj)} {σ : St} {H : Hp} {s : Shared} (I : Inv X pins σ H s) : interactive X.env = false := by simp [interactive, I.ok.kind]
noncomputable def tDrop (te : TE) : TS := fun D σ H => te σ H fun _ H1 => D.nx σ H1
theorem ps_expr (he : PE X e te) (hs : swapsWith e none pos.line X.env = pure false := by rfl) : PS X (.Expr e pos) (tDrop te) := by
  intro pins s σ H D I h
  exact wpAny_Expr_any (thn (he pins s σ H _ I h) fun v s1 ⟨x, H1, I1, r1, q1⟩ => ⟨σ, H1, I1, q1⟩) I.quiet hs
noncomputable def tRet (te : TE) : TS := fun D σ H => te σ H D.rt
theorem ps_ret (he : PE X e te) : PS X (.Return (some e) pos) (tRet te) := by
  intro pins s σ H D I h
  exact wpAny_Return_some (thn (he pins s σ H _ I h) fun v s1 ⟨x, H1, I1, r1, q1⟩ => ⟨x, σ, H1, I1, r1, q1⟩)
noncomputable def tIfS (c : TT) (t u : TS) : TS := fun D σ H => c σ H fun b H1 => if b = true then t D σ H1 else u D σ H1
theorem ps_if {c : Expr} {a b : List Stmt} {tc : TT} (hc : PT X c tc) (ha : PSs X a t) (hb : PSs X b u) : PS X (.If c a b pos) (tIfS tc t u) := by
  intro pins s σ H D I h
  refine wpAny_If (thn (hc pins s σ H _ I h) fun d s1 ⟨H1, I1, q1⟩ => ?_)
  cases d with
  | true => exact ha pins s1 σ H1 D I1 q1
  | false => exact hb pins s1 σ H1 D I1 q1
noncomputable def tNever : TS := fun _ _ _ => False
theorem ps_never : PS X st tNever := fun _ _ _ _ _ _ h => h.elim
end

noncomputable abbrev TG := V → St → Hp → (St → Hp → Prop) → Prop
noncomputable abbrev TGs := List V → St → Hp → (St → Hp → Prop) → Prop
noncomputable def PG (X : Cx) (target : Expr) (t : TG) : Prop :=
  ∀ (pins : List (Addr × Obj)) (s : Shared) (σ : St) (H : Hp) (v : V) (u : Value) (Q : St → Hp → Prop), Inv X pins σ H s → RelV v u → t v σ H Q →
    wpAny (model X.prog X.w) X.A (assign target X.env u) (fun _ s' => ∃ σ' H', Inv X pins σ' H' s' ∧ Q σ' H') X.xe s
noncomputable def PGs (X : Cx) (ts : List Expr) (t : TGs) : Prop :=
  ∀ (pins : List (Addr × Obj)) (s : Shared) (σ : St) (H : Hp) (vs : List V) (us : List Value) (Q : St → Hp → Prop), Inv X pins σ H s → Vals vs us → t vs σ H Q →
    wpAny (model X.prog X.w) X.A (assignInOrder ((assignEach ts X.env).map (·.2)) us) (fun _ s' => ∃ σ' H', Inv X pins σ' H' s' ∧ Q σ' H') X.xe s
noncomputable abbrev TSet := V → V → V → Hp → (Hp → Prop) → Prop
noncomputable def PSet (X : Cx) (t : TSet) : Prop :=
  ∀ (pins : List (Addr × Obj)) (s : Shared) (σ : St) (H : Hp) (o i v : V) (ov iv u : Value) (Q : Hp → Prop), Inv X pins σ H s → RelV o ov → RelV i iv → RelV v u → t o i v H Q →
    wpAny (model X.prog X.w) X.A (setItem ov iv u) (fun _ s' => ∃ H', Inv X pins σ H' s' ∧ Q H') X.xe s
section
variable {X : Cx} {pos : Pos}
noncomputable def gName (i : Nat) : TG := fun v σ H Q => Q (σ.set i (some v)) H
theorem pg_name {i : Nat} {x : Str} (hN : X.N.Nodup) (hi : X.N[i]? = some x) (hx : Loc X.env.scope x) (hf : X.fn x = true ∨ X.env.scope.names.lookup x = some .local := by first | exact .inl rfl | exact .inr rfl | assumption) : PG X (.Name x pos) (gName i) := by
  intro pins s σ H v u Q I r h
  exact wpAny_assign_Name (store_ok I hN hi hx r (fun s' I' => ⟨_, H, I', h⟩) hf)
noncomputable def gNil : TGs := fun vs σ H Q => vs = [] ∧ Q σ H
noncomputable def gCons (t : TG) (u : TGs) : TGs := fun vs σ H Q => ∃ v r, vs = v :: r ∧ t v σ H fun σ' H' => u r σ' H' Q
theorem pgs_nil : PGs X [] gNil := by
  intro pins s σ H vs us Q I r h
  obtain ⟨e, h⟩ := h
  subst e
  cases r
  exact assignInOrder_nil ⟨σ, H, I, h⟩
theorem pgs_cons {e : Expr} {es : List Expr} {t : TG} {u : TGs} (h1 : PG X e t) (h2 : PGs X es u)
    (hs : (assignEach (e :: es) X.env).map (·.2) = assign e X.env :: (assignEach es X.env).map (·.2) := by rfl) : PGs X (e :: es) (gCons t u) := by
  intro pins s σ H vs us Q I r h
  obtain ⟨v, vr, e1, h⟩ := h
  subst e1
  cases r with
  | cons r rr =>
    rw [hs]
    refine assignInOrder_cons (thn (h1 pins s σ H _ _ _ I r h) fun _ s1 ⟨σ1, H1, I1, q1⟩ => ?_)
    exact h2 pins s1 σ1 H1 _ _ Q I1 rr q1
noncomputable def gTup (K : PySem.W.Frag) (n : Nat) (t : TGs) : TG := fun v σ H Q => ∃ a xs, v = .ref a ∧ SqT K H a xs ∧ xs.length = n ∧ t xs σ H Q
theorem pg_tup {es : List Expr} {k : Nat} {t : TGs} {n : Nat} (hc : X.calm = true) (h : PGs X es t)
    (hn : (assignEach es X.env).length = n := by rfl) (hst : (assignEach es X.env).findIdx? (·.1) = none := by rfl) : PG X (.Tuple es k pos) (gTup X.K n t) := by
  intro pins s σ H v u Q I r hw
  obtain ⟨a, xs, e1, hq, hl, hw⟩ := hw
  subst e1
  cases r
  obtain ⟨its, rv, ht, hz⟩ := I.tuple hq
  refine assign_Tuple_tuple (I.ok.hd hc) ht (by simp [hn, ← hl, rv.length]) hst fun h' hx => ?_
  have I1 : Inv X pins σ H { s with heap := h' } := I.kept (t' := s.toks) fun b o e => hx b o (Nat.ne_of_lt (Heap.lt_size e)) e
  exact h pins _ σ H xs _ Q I1 (by simpa using rv) hw
noncomputable def gSub (to ti : TE) (t : TSet) : TG := fun v σ H Q => to σ H fun o H1 => ti σ H1 fun i H2 => t o i v H2 fun H3 => Q σ H3
theorem pg_sub {o i : Expr} {to ti : TE} {t : TSet} (ho : PE X o to) (hi : PE X i ti) (hs : PSet X t)
    (ha : ∀ v, assign (.Subscript o i pos) X.env v = (do
      let ov ← holding [v] (eval o X.env)
      let iv ← holding [v, ov] (eval i X.env)
      standAt pos
      holding [v, ov, iv] (setItem ov iv v)
      release [v, ov, iv] []) := by intro _; rfl) : PG X (.Subscript o i pos) (gSub to ti t) := by
  intro pins s σ H v u Q I r h
  rw [ha]
  refine wpAny_bind (wpAny_holding (thn (ho pins s σ H _ I h) fun ov s1 ⟨x, H1, I1, r1, q1⟩ => ?_))
  refine wpAny_bind (wpAny_holding (thn (hi pins s1 σ H1 _ I1 q1) fun iv s2 ⟨y, H2, I2, r2, q2⟩ => ?_))
  refine wpAny_bind (wpAny_standAt (wpAny_bind (wpAny_holding (thn (hs pins s2 σ H2 x y v ov iv u _ I2 r1 r2 r q2) fun _ s3 ⟨H3, I3, q3⟩ => ?_))))
  exact wpAny_release ⟨σ, H3, I3, q3⟩
noncomputable def tAsg (te : TE) (g : TG) : TS := fun D σ H => te σ H fun x H1 => g x σ H1 D.nx
theorem ps_asg {tg e : Expr} {te : TE} {g : TG} (he : PE X e te) (hg : PG X tg g) (hs : swapsWithSole [tg] e pos.line X.env = pure false := by rfl) (hw : swappedStores [tg] e X.env = pure none := by rfl)
    (h1 : (assignEach [tg] X.env).map (·.2) = [assign tg X.env] := by rfl) : PS X (.Assign [tg] e pos) (tAsg te g) := by
  intro pins s σ H D I h
  refine wpAny_Assign_stores (thn (he pins s σ H _ I h) fun v s1 ⟨x, H1, I1, r1, q1⟩ => ?_) hs hw
  rw [h1]
  exact thn (hg pins s1 σ H1 x v _ I1 r1 q1) fun _ s2 q => q
theorem ps_set {i : Nat} {x : Str} {e : Expr} {te : TE} {pos' : Pos} (hN : X.N.Nodup) (hi : X.N[i]? = some x) (hx : Loc X.env.scope x) (he : PE X e te) (hs : swapsWith e (some (.Name x pos')) pos.line X.env = pure false := by rfl) (hf : X.fn x = true ∨ X.env.scope.names.lookup x = some .local := by first | exact .inl rfl | exact .inr rfl | assumption) :
    PS X (.Assign [.Name x pos'] e pos) (tAsg te (gName i)) := by
  intro pins s σ H D I h
  refine wpAny_Assign_Name (thn (he pins s σ H _ I h) fun v s1 ⟨y, H1, I1, r1, q1⟩ => ?_) hs
  exact store_ok I1 hN hi hx r1 (fun s2 I2 => ⟨_, H1, I2, q1⟩) hf
end

section
variable {X : Cx} {pos : Pos}
noncomputable def tWhile (c : TT) (tb : TS) : TS := fun D σ H => ∃ W : Nat → St → Hp → Prop, (∃ m, W m σ H) ∧ ∀ m σ H, W m σ H →
  c σ H fun b H1 => if b = true then ∃ N : St → Hp → Prop, (∀ σ' H', N σ' H' → ∃ m', m' < m ∧ W m' σ' H') ∧ tb { D with nx := N, ct := N, bk := D.nx } σ H1 else D.nx σ H1
theorem ps_while {c : Expr} {body : List Stmt} {tc : TT} {tb : TS} (hp : PassesOwn (model X.prog X.w) X.A X.env X.xe) (hc : PT X c tc) (hb : PSs X body tb) : PS X (.While c body [] pos) (tWhile tc tb) := by
  intro pins s σ H D I h
  obtain ⟨W, ⟨m0, w0⟩, turn⟩ := h
  refine wpAny_While (codeAny_whileLoop (fun n s' => ∃ σ' H', Inv X pins σ' H' s' ∧ W n σ' H') ?_ m0 ⟨σ, H, I, w0⟩)
  rintro n s1 ⟨σ1, H1, I1, w1⟩
  refine wpAny_passesOwn hp (thn (hc pins s1 σ1 H1 _ I1 (turn n σ1 H1 w1)) fun b s2 ⟨H2, I2, q2⟩ => ?_)
  cases b with
  | true =>
    obtain ⟨N, hN, q2⟩ := q2
    rw [if_pos rfl]
    refine wpAny_passesOwn hp (thn (hb pins s2 σ1 H2 _ I2 q2) fun f s3 q3 => ?_)
    cases f with
    | next =>
      obtain ⟨σ3, H3, I3, n3⟩ := q3
      obtain ⟨m', hm, w3⟩ := hN σ3 H3 n3
      exact ⟨m', hm, σ3, H3, I3, w3⟩
    | cont =>
      obtain ⟨σ3, H3, I3, n3⟩ := q3
      obtain ⟨m', hm, w3⟩ := hN σ3 H3 n3
      exact ⟨m', hm, σ3, H3, I3, w3⟩
    | brk => exact q3
    | ret v => exact q3
  | false =>
    rw [if_neg Bool.false_ne_true]
    exact wpAny_execs_nil ⟨σ1, H2, I2, q2⟩
end

structure It where
  go : Nat → Hp → Prop
  yld : Nat → Hp → V → Hp → Prop
  stop : Nat → Hp → Prop
noncomputable def FpOk (X : Cx) (pins : List (Addr × Obj)) (H : Hp) (b : Addr) : Prop :=
  H b = none ∧ b ≠ X.env.locals ∧ b ∉ X.fs ∧ (b ∈ X.ex ∨ X.s₀.heap.objs.size ≤ b) ∧ (∀ x c, X.env.cells.lookup x = some c → c ≠ b) ∧ ∀ p ∈ X.pn ++ pins, p.1 ≠ b
theorem Inv.fpOk {X : Cx} {pins : List (Addr × Obj)} {σ : St} {H H' : Hp} {s : Shared} {b : Addr} (I : Inv X pins σ H s) (hb : s.heap.objs.size ≤ b) (hn : H' b = none) : FpOk X pins H' b := by
  refine ⟨hn, Nat.ne_of_gt (Nat.lt_of_lt_of_le I.lt hb), I.nofs hb, .inr (Nat.le_trans I.sz hb), fun x c e z => ?_, fun p hp z => ?_⟩
  · obtain ⟨v, q⟩ := I.cell x c e
    exact absurd (Nat.lt_of_lt_of_le q.lt (by rw [z]; exact hb)) (Nat.lt_irrefl _)
  · exact absurd (Nat.lt_of_lt_of_le (Heap.lt_size (I.pin p hp).1) (by rw [z]; exact hb)) (Nat.lt_irrefl _)
structure Turn (P : Program) (w : World) (K : PySem.W.Frag) (tg : Expr) (J : It) (fp : List Addr) (it : Addr) (tn : Nat → Heap → Prop) : Prop where
  mem : it ∈ fp
  obj : ∀ i h, tn i h → ∀ b ∈ fp, ∃ o, h.get? b = some o ∧ ∀ v, o.data ≠ .cell v
  keep : ∀ i h h', tn i h → (∀ b ∈ fp, ∀ o, h.get? b = some o → h'.get? b = some o) → tn i h'
  item : ∀ (X : Cx), X.prog = P → X.w = w → X.K = K → X.calm = true → ∀ (i : Nat) (pins : List (Addr × Obj)) (s : Shared) (σ : St) (H : Hp) (E : Value → Shared → Prop), Inv X pins σ H s → (∀ b ∈ fp, FpOk X pins H b) → tn i s.heap → J.go i H →
    wpAny (model P w) X.A (pyNext (.ref it)) (fun r s1 => ∃ u, r = some u ∧
      wpAny (model P w) X.A (letOwnedTupleGo tg (.ref it) u) (fun _ s2 => ∃ x H', Inv X pins σ H' s2 ∧ RelV x u ∧ J.yld i H x H' ∧ tn (i + 1) s2.heap ∧ ∀ b ∈ fp, H' b = none) E s1) E s
  done : ∀ (X : Cx), X.prog = P → X.w = w → X.K = K → X.calm = true → ∀ (i : Nat) (pins : List (Addr × Obj)) (s : Shared) (σ : St) (H : Hp) (E : Value → Shared → Prop), Inv X pins σ H s → (∀ b ∈ fp, FpOk X pins H b) → tn i s.heap → J.stop i H →
    wpAny (model P w) X.A (pyNext (.ref it)) (fun r s1 => r = none ∧ Inv X pins σ H s1) E s
  self : ∀ (A : Around) (i : Nat) (s : Shared) (Q : Value → Shared → Prop) (E : Value → Shared → Prop), tn i s.heap → Q (.ref it) s → wpAny (model P w) A (pyIter (.ref it)) Q E s
noncomputable abbrev TI := St → Hp → (It → Hp → Prop) → Prop
noncomputable def PIE (X : Cx) (pins : List (Addr × Obj)) (σ : St) (tg : Expr) (R : It → Hp → Prop) (itv : Value) (s2 : Shared) : Prop :=
  ∃ (it : Addr) (fp : List Addr) (tn : Nat → Heap → Prop) (J : It) (H' : Hp), itv = .ref it ∧ Inv X pins σ H' s2 ∧ Turn X.prog X.w X.K tg J fp it tn ∧ tn 0 s2.heap ∧ (∀ b ∈ fp, FpOk X pins H' b) ∧ R J H'
noncomputable def PI (X : Cx) (tg iter : Expr) (wi : TI) : Prop :=
  ∀ (pins : List (Addr × Obj)) (s : Shared) (σ : St) (H : Hp) (R : It → Hp → Prop), Inv X pins σ H s → wi σ H R →
    wpAny (model X.prog X.w) X.A (eval iter X.env) (fun v s1 => wpAny (model X.prog X.w) X.A (pyIter v) (PIE X pins σ tg R) X.xe s1) X.xe s

theorem go_of {M : Model} {A : Around} {E : Value → Shared → Prop} {s : Shared} {tg : Expr} {it : Addr} {u : Value} {o : Obj} {n : String} {vs : Array Value} {Q : Unit → Shared → Prop} (ho : s.heap.get? it = some o) (hc : o.cls = .type n) (hd : o.data = .fields vs)
    (hn : ["enumerate", "zip", "dict_itemiterator", "dict_reverseitemiterator", "odict_iterator", "itertools.zip_longest", "itertools.pairwise"].contains n = false) (hQ : Q () s) : wpAny M A (letOwnedTupleGo tg (.ref it) u) Q E s := by
  unfold letOwnedTupleGo
  cases tg <;> first
    | exact wpAny_pure hQ
    | (cases u <;> first
        | exact wpAny_pure hQ
        | (refine wpAny_bind (wpAny_load ho ?_)
           rw [hc, hd]
           show wpAny M A (if (["enumerate", "zip", "dict_itemiterator", "dict_reverseitemiterator", "odict_iterator", "itertools.zip_longest", "itertools.pairwise"].contains n && vs[0]? == some (rawInt _)) = true then _ else _) Q E s
           rw [if_neg (by intro h; rw [hn, Bool.false_and] at h; cases h)]
           exact wpAny_pure hQ))

noncomputable def Itl (K : PySem.W.Frag) (a : Addr) : It :=
  ⟨fun i H => ∃ xs x, SqL K H a xs ∧ xs[i]? = some x, fun i H x H' => H' = H ∧ ∀ xs, SqL K H a xs → xs[i]? = some x, fun i H => ∃ xs, SqL K H a xs ∧ xs.length ≤ i⟩
noncomputable def Itr (lo : Int) (n : Nat) : It := ⟨fun i _ => i < n, fun i H x H' => H' = H ∧ x = .int (lo + i), fun i _ => n ≤ i⟩
theorem turn_list {P : Program} {w : World} {K : PySem.W.Frag} {tg : Expr} (a it : Addr) : Turn P w K tg (Itl K a) [it] it (fun i h => h.IsListIter it a i) where
  mem := by simp
  obj := fun i h st b hb => by
    have e : b = it := by simpa using hb
    subst e
    obtain ⟨o, e, c, d⟩ := st
    exact ⟨o, e, fun v z => by rw [d] at z; cases z⟩
  keep := fun i h h' st k => st.at fun o e => k it (by simp) o e
  item := by
    intro X hP hw hK hc i pins s σ H E I hf st hg
    subst hP hw hK
    obtain ⟨xs, x, hq, hx⟩ := hg
    obtain ⟨its, rv, p, hz⟩ := I.list hq
    obtain ⟨u, hu, ru⟩ := rv.get hx
    obtain ⟨f0, f1, f2, f3, f4, f5⟩ := hf it (by simp)
    refine wpAny_pyNext_list_item st p.isList (x := u) (by simpa using hu) fun h' st' sb => ?_
    have I1 : Inv X pins σ H { s with heap := h' } := I.turned (t' := s.toks) (fun b o hb e => (sb.2 b hb).trans e) f0 f1 f3 f4 f5
    obtain ⟨o, e, c, d⟩ := id st'
    exact ⟨u, rfl, go_of (s := { s with heap := h' }) e c d (by decide) ⟨x, H, I1, ru, ⟨rfl, fun ys hy => by rw [I.list_inj hy hq]; exact hx⟩, st', fun b hb => (hf b hb).1⟩⟩
  done := by
    intro X hP hw hK hc i pins s σ H E I hf st hg
    subst hP hw hK
    obtain ⟨xs, hq, hx⟩ := hg
    obtain ⟨its, rv, p, hz⟩ := I.list hq
    obtain ⟨f0, f1, f2, f3, f4, f5⟩ := hf it (by simp)
    have hl := rv.length
    exact wpAny_pyNext_list_end (I.ok.hd hc) st p.isList (by simp; omega) fun h' eb => ⟨rfl, I.turned (t' := s.toks) (fun b o hb e => eb b o hb e) f0 f1 f3 f4 f5⟩
  self := fun _ _ _ _ _ st h => wpAny_pyIter_listiter st h
theorem turn_range {P : Program} {w : World} {K : PySem.W.Frag} {tg : Expr} (it : Addr) (lo : Int) (n : Nat) : Turn P w K tg (Itr lo n) [it] it (fun i h => IsRangeIter h it (lo + (i : Nat) * 1) ((n : Int) - (i : Nat)) 1) where
  mem := by simp
  obj := fun i h st b hb => by
    have e : b = it := by simpa using hb
    subst e
    exact ⟨_, st, fun v z => by
      have z' : Data.fields _ = Data.cell v := z
      cases z'⟩
  keep := fun i h h' st k => k it (by simp) _ st
  item := by
    intro X hP hw hK hc i pins s σ H E I hf st hg
    subst hP hw hK
    obtain ⟨f0, f1, f2, f3, f4, f5⟩ := hf it (by simp)
    have W := Walks.range (prog := X.prog) (w := X.w) (I.ok.hd hc) it lo 1 n
    refine W.item i s _ _ hg st fun v h' tk hv st' kk => ?_
    obtain ⟨t, rfl⟩ := hv
    have I1 : Inv X pins σ H { s with heap := h', toks := tk } := I.turned (fun b o hb e => kk b o (by simpa using hb) e) f0 f1 f3 f4 f5
    refine ⟨_, rfl, go_of (s := { s with heap := h', toks := tk }) (n := "range_iterator") st' rfl rfl (by decide) ⟨.int (lo + i), H, I1, ⟨t, ?_⟩, ⟨rfl, rfl⟩, st', fun b hb => (hf b hb).1⟩⟩
    rw [Int.mul_one]
  done := by
    intro X hP hw hK hc i pins s σ H E I hf st hg
    subst hP hw hK
    obtain ⟨f0, f1, f2, f3, f4, f5⟩ := hf it (by simp)
    exact wpAny_pyNext_range_end (I.ok.hd hc) st (by have : n ≤ i := hg; omega) fun h' eb => ⟨rfl, I.turned (t' := s.toks) (fun b o hb e => eb b o hb e) f0 f1 f3 f4 f5⟩
  self := fun _ _ _ _ _ st h => wpAny_pyIter_rangeiter st h
end L2

namespace L2
open PySem PySem.Spec PyProof.Rows
section
variable {X : Cx} {tg : Expr}
noncomputable def iList (K : PySem.W.Frag) (tl : TE) : TI := fun σ H R => tl σ H fun x H1 => ∃ a, x = .ref a ∧ (∃ xs, SqL K H1 a xs) ∧ R (Itl K a) H1
theorem pi_list {l : Expr} {tl : TE} (hl : PE X l tl) : PI X tg l (iList X.K tl) := by
  intro pins s σ H R I h
  refine thn (hl pins s σ H _ I h) fun v s1 ⟨x, H1, I1, r1, q1⟩ => ?_
  obtain ⟨a, e, ⟨xs, hq⟩, q⟩ := q1
  subst e
  cases r1
  obtain ⟨its, rv, p, hz⟩ := I1.list hq
  refine wpAny_pyIter_list p.isList ?_
  refine ⟨s1.heap.objs.size, [s1.heap.objs.size], _, _, H1, rfl, I1.kept (t' := s1.toks) fun b o e => Heap.get?_push_of_some _ e, turn_list a _, ⟨_, Heap.get?_push_size _ rfl, rfl, rfl⟩, fun b hb => ?_, q⟩
  have e : b = s1.heap.objs.size := by simpa using hb
  subst e
  exact I1.fpOk (Nat.le_refl _) (I1.hok.fresh (Nat.le_refl _))
theorem range_it {pins : List (Addr × Obj)} {σ : St} {H : Hp} {s : Shared} {R : It → Hp → Prop} {E : Value → Shared → Prop} {lo hi : Int} {t u v : Tok} {tk : Nat} (I : Inv X pins σ H s) (h1 : -(2 ^ 62) ≤ lo) (h2 : lo < 2 ^ 62) (h3 : -(2 ^ 62) ≤ hi) (h4 : hi < 2 ^ 62)
    (q : R (Itr lo (hi - lo).toNat) H) : wpAny (model X.prog X.w) X.A (pyIter (.ref s.heap.objs.size)) (PIE X pins σ tg R) E { s with heap := s.heap.push { cls := .type "range", data := .fields #[.int lo t, .int hi u, .int 1 v] }, toks := tk } := by
  refine wpAny_pyIter_range (IsRange.new ..) (small_one h1 h2 h3 h4) ?_
  have I1 : Inv X pins σ H { s with heap := s.heap.push { cls := .type "range", data := .fields #[.int lo t, .int hi u, .int 1 v] }, toks := tk } := I.kept fun b o e => Heap.get?_push_of_some _ e
  refine ⟨(s.heap.push { cls := .type "range", data := .fields #[.int lo t, .int hi u, .int 1 v] }).objs.size, [(s.heap.push { cls := .type "range", data := .fields #[.int lo t, .int hi u, .int 1 v] }).objs.size], _, _, H, rfl,
    I1.kept (t' := tk) fun b o e => Heap.get?_push_of_some _ e, turn_range _ lo (hi - lo).toNat, ?_, fun b hb => ?_, q⟩
  · have e1 : lo + ((0 : Nat) : Int) * 1 = lo := by simp
    have e2 : (((hi - lo).toNat : Nat) : Int) - ((0 : Nat) : Int) = Builtin.Range.rangeSize lo hi 1 := by rw [rangeSize_one]; split <;> omega
    show IsRangeIter _ _ (lo + ((0 : Nat) : Int) * 1) ((((hi - lo).toNat : Nat) : Int) - ((0 : Nat) : Int)) 1
    rw [e1, e2]
    exact Heap.get?_push_size _ rfl
  · have e : b = (s.heap.push { cls := .type "range", data := .fields #[.int lo t, .int hi u, .int 1 v] }).objs.size := by simpa using hb
    subst e
    exact I1.fpOk (Nat.le_refl _) (I1.hok.fresh (Nat.le_refl _))
noncomputable def iRng1 (ta : TA) : TI := fun σ H R => ta σ H fun vs H1 => ∃ j : Int, vs = [.int j] ∧ -(2 ^ 62) ≤ j ∧ j < 2 ^ 62 ∧ R (Itr 0 j.toNat) H1
theorem pi_range1 {a : Expr} {ta : TA} {p pos : Pos} (hg : Gl X "range") (hm : X.mg "range" = none) (ha : PA X [a] ta) (hs : starEach [a] X.env = [(false, eval a X.env)] := by rfl) : PI X tg (.Call (.Name "range" p) [a] [] pos) (iRng1 ta) := by
  intro pins s σ H R I h
  refine Call_ (ld_blt I hg hm boot_range (PyProof.Rows.callWith_type1 (thn (ha pos pins s σ H _ I h) fun us s1 ⟨vs, H1, I1, r1, q1⟩ => ?_) hs rfl))
  obtain ⟨j, e, q1, q2, q⟩ := q1
  subst e
  cases r1 with
  | cons r rr =>
    cases rr
    obtain ⟨t, rfl⟩ := r
    exact call_range_1 (range_it I1 (by omega) (by omega) q1 q2 (by simpa using q))
noncomputable def tFor (wi : TI) (g : TG) (tb : TS) : TS := fun D σ H => wi σ H fun J H1 => ∃ W : Nat → Nat → St → Hp → Prop, (∃ m, W 0 m σ H1) ∧ ∀ i m σ H, W i m σ H →
  (J.stop i H ∧ D.nx σ H) ∨ (J.go i H ∧ ∃ N : St → Hp → Prop, (∀ σ' H', N σ' H' → ∃ m', m' < m ∧ W (i + 1) m' σ' H') ∧ ∀ x H', J.yld i H x H' → g x σ H' fun σ2 H2 => tb { D with nx := N, ct := N, bk := D.nx } σ2 H2)
noncomputable def pinsAt (fp : List Addr) (h : Heap) : List (Addr × Obj) := fp.filterMap fun b => (h.get? b).map fun o => (b, o)
theorem mem_pinsAt {fp : List Addr} {h : Heap} {b : Addr} {o : Obj} (hb : b ∈ fp) (e : h.get? b = some o) : (b, o) ∈ pinsAt fp h := List.mem_filterMap.mpr ⟨b, hb, by rw [e]; rfl⟩
theorem of_pinsAt {fp : List Addr} {h : Heap} {p : Addr × Obj} (hp : p ∈ pinsAt fp h) : p.1 ∈ fp ∧ h.get? p.1 = some p.2 := by
  obtain ⟨b, hb, e⟩ := List.mem_filterMap.mp hp
  cases q : h.get? b with
  | none => rw [q] at e; cases e
  | some o =>
    rw [q] at e
    have e' : (b, o) = p := Option.some.inj e
    subst e'
    exact ⟨hb, q⟩
theorem Inv.pinned {pins : List (Addr × Obj)} {σ : St} {H : Hp} {s : Shared} {fp : List Addr} (I : Inv X pins σ H s) (hf : ∀ b ∈ fp, FpOk X pins H b) (ho : ∀ b ∈ fp, ∃ o, s.heap.get? b = some o ∧ ∀ v, o.data ≠ .cell v) : Inv X (pins ++ pinsAt fp s.heap) σ H s :=
  I.pins_of fun p hp => (List.mem_append.mp hp).elim (fun z => I.pin p (List.mem_append_right _ z)) fun z => by
    obtain ⟨hb, e⟩ := of_pinsAt z
    obtain ⟨f0, f1, f2, _⟩ := hf p.1 hb
    obtain ⟨o, e', d⟩ := ho p.1 hb
    rw [e] at e'; cases e'
    exact ⟨e, f0, f1, f2, d⟩
theorem Inv.unpinned {pins pl : List (Addr × Obj)} {σ : St} {H : Hp} {s : Shared} (I : Inv X (pins ++ pl) σ H s) : Inv X pins σ H s := I.pins_of fun p hp => I.pin p (List.mem_append_right _ (List.mem_append_left _ hp))
theorem ps_for {iter : Expr} {body : List Stmt} {wi : TI} {g : TG} {tb : TS} {pos : Pos} (hp : PassesOwn (model X.prog X.w) X.A X.env X.xe) (hc : X.calm = true) (hi : PI X tg iter wi) (hg : PG X tg g) (hb : PSs X body tb)
    (hs : ∀ x, foldedSetIterable iter X.env x = pure x := by intro _; rfl) : PS X (.For tg iter body [] pos) (tFor wi g tb) := by
  intro pins s σ H D I h
  refine wpAny_For (thn (hi pins s σ H _ I h) fun v s1 h1 => thn h1 fun itv s2 h2 => ?_) hs
  obtain ⟨it, fp, tn, J, H2, e, I2, T, st2, f2, W, ⟨m0, w0⟩, turn⟩ := h2
  subst e
  -- what stays true of the iterator's objects through the loop
  have stat : ∀ {H' : Hp}, (∀ b ∈ fp, H' b = none) → ∀ b ∈ fp, FpOk X pins H' b := fun hn b hb => ⟨hn b hb, (f2 b hb).2⟩
  refine codeAny_forLoop_any (fun n s' => ∃ i σ' H', Inv X pins σ' H' s' ∧ tn i s'.heap ∧ (∀ b ∈ fp, H' b = none) ∧ W i n σ' H') ?_ m0 ⟨0, σ, H2, I2, st2, fun b hb => (f2 b hb).1, w0⟩
  rintro n s3 ⟨i, σ3, H3, I3, st3, fr3, w3⟩
  rcases turn i n σ3 H3 w3 with ⟨stop, qn⟩ | ⟨go, N, hN, step⟩
  · refine wpAny_passesOwn hp (thn (T.done X rfl rfl rfl hc i pins s3 σ3 H3 X.xe I3 (stat fr3) st3 stop) fun r s4 ⟨hr, I4⟩ => ?_)
    subst hr
    exact wpAny_execs_nil ⟨σ3, H3, I4, qn⟩
  · refine wpAny_passesOwn hp (thn (T.item X rfl rfl rfl hc i pins s3 σ3 H3 X.xe I3 (stat fr3) st3 go) fun r s4 ⟨u, hr, h4⟩ => ?_)
    subst hr
    refine wpAny_passesOwn hp (thn h4 fun _ s5 ⟨x, H5, I5, r5, y5, st5, fr5⟩ => ?_)
    have I5' := I5.pinned (stat fr5) (T.obj _ _ st5)
    refine wpAny_passesOwn hp (thn (hg _ s5 σ3 H5 x u _ I5' r5 (step x H5 y5)) fun _ s6 ⟨σ6, H6, I6, q6⟩ => ?_)
    refine wpAny_passesOwn hp (thn (hb _ s6 σ6 H6 _ I6 q6) fun f s7 q7 => ?_)
    have again : ∀ {σ7 : St} {H7 : Hp}, Inv X (pins ++ pinsAt fp s5.heap) σ7 H7 s7 → N σ7 H7 → ∃ m, m < n ∧ ∃ i σ' H', Inv X pins σ' H' s7 ∧ tn i s7.heap ∧ (∀ b ∈ fp, H' b = none) ∧ W i m σ' H' := fun {σ7 H7} I7 n7 => by
      obtain ⟨m', hm, w7⟩ := hN σ7 H7 n7
      refine ⟨m', hm, i + 1, σ7, H7, I7.unpinned, T.keep _ _ _ st5 fun b hb o e => (I7.pin (b, o) (List.mem_append_right _ (List.mem_append_right _ (mem_pinsAt hb e)))).1, fun b hb => ?_, w7⟩
      obtain ⟨o, e, d⟩ := T.obj _ _ st5 b hb
      exact (I7.pin (b, o) (List.mem_append_right _ (List.mem_append_right _ (mem_pinsAt hb e)))).2.1
    cases f with
    | next => obtain ⟨σ7, H7, I7, n7⟩ := q7; exact again I7 n7
    | cont => obtain ⟨σ7, H7, I7, n7⟩ := q7; exact again I7 n7
    | brk => obtain ⟨σ7, H7, I7, q7⟩ := q7; exact ⟨σ7, H7, I7.unpinned, q7⟩
    | ret v => obtain ⟨x7, σ7, H7, I7, r7, q7⟩ := q7; exact ⟨x7, σ7, H7, I7.unpinned, r7, q7⟩
end

theorem for_list {K : PySem.W.Frag} {a : Addr} {xs : List V} {g : TG} {tb : TS} {D : Ends} {σ : St} {H : Hp} (Pv : Nat → St → Hp → Prop) (h0 : Pv 0 σ H) (hl : ∀ i σ H, i ≤ xs.length → Pv i σ H → SqL K H a xs)
    (hs : ∀ i x σ H, xs[i]? = some x → Pv i σ H → g x σ H fun σ2 H2 => tb { D with nx := Pv (i + 1), ct := Pv (i + 1), bk := D.nx } σ2 H2) (hd : ∀ σ H, Pv xs.length σ H → D.nx σ H) :
    ∃ W : Nat → Nat → St → Hp → Prop, (∃ m, W 0 m σ H) ∧ ∀ i m σ H, W i m σ H →
      ((Itl K a).stop i H ∧ D.nx σ H) ∨ ((Itl K a).go i H ∧ ∃ N : St → Hp → Prop, (∀ σ' H', N σ' H' → ∃ m', m' < m ∧ W (i + 1) m' σ' H') ∧ ∀ x H', (Itl K a).yld i H x H' → g x σ H' fun σ2 H2 => tb { D with nx := N, ct := N, bk := D.nx } σ2 H2) := by
  refine ⟨fun i m σ H => m = xs.length - i ∧ i ≤ xs.length ∧ Pv i σ H, ⟨xs.length, by simp, Nat.zero_le _, h0⟩, ?_⟩
  rintro i m σ H ⟨rfl, hi, p⟩
  have q := hl i σ H hi p
  by_cases hlt : i < xs.length
  · refine .inr ⟨⟨xs, xs[i], q, by simp [hlt]⟩, Pv (i + 1), fun σ' H' p' => ⟨xs.length - (i + 1), by omega, rfl, hlt, p'⟩, fun x H' y => ?_⟩
    obtain ⟨e, y⟩ := y
    subst e
    exact hs i x σ _ (y xs q) p
  · have e : i = xs.length := by omega
    subst e
    exact .inl ⟨⟨xs, q, Nat.le_refl _⟩, hd σ H p⟩
theorem for_range {lo : Int} {n : Nat} {g : TG} {tb : TS} {D : Ends} {σ : St} {H : Hp} (Pv : Nat → St → Hp → Prop) (h0 : Pv 0 σ H)
    (hs : ∀ i σ H, i < n → Pv i σ H → g (.int (lo + i)) σ H fun σ2 H2 => tb { D with nx := Pv (i + 1), ct := Pv (i + 1), bk := D.nx } σ2 H2) (hd : ∀ σ H, Pv n σ H → D.nx σ H) :
    ∃ W : Nat → Nat → St → Hp → Prop, (∃ m, W 0 m σ H) ∧ ∀ i m σ H, W i m σ H →
      ((Itr lo n).stop i H ∧ D.nx σ H) ∨ ((Itr lo n).go i H ∧ ∃ N : St → Hp → Prop, (∀ σ' H', N σ' H' → ∃ m', m' < m ∧ W (i + 1) m' σ' H') ∧ ∀ x H', (Itr lo n).yld i H x H' → g x σ H' fun σ2 H2 => tb { D with nx := N, ct := N, bk := D.nx } σ2 H2) := by
  refine ⟨fun i m σ H => m = n - i ∧ i ≤ n ∧ Pv i σ H, ⟨n, by simp, Nat.zero_le _, h0⟩, ?_⟩
  rintro i m σ H ⟨rfl, hi, p⟩
  by_cases hlt : i < n
  · refine .inr ⟨hlt, Pv (i + 1), fun σ' H' p' => ⟨n - (i + 1), by omega, rfl, hlt, p'⟩, fun x H' y => ?_⟩
    obtain ⟨e, y⟩ := y
    subst e y
    exact hs i σ _ hlt p
  · have e : i = n := by omega
    subst e
    exact .inl ⟨Nat.le_refl _, hd σ H p⟩
end L2

namespace L2
open PySem PySem.Spec PyProof.Rows

noncomputable abbrev R2 := V → V → Hp → VK → Prop
noncomputable def OpR (X : Cx) (f : Value → Value → Sem Value) (r : R2) : Prop :=
  ∀ (pins : List (Addr × Obj)) (s : Shared) (σ : St) (H : Hp) (x y : V) (v u : Value) (Q : VK), Inv X pins σ H s → RelV x v → RelV y u → r x y H Q →
    wpAny (model X.prog X.w) X.A (f v u) (EP X pins σ Q) X.xe s
noncomputable def UnR (X : Cx) (f : Value → Sem Value) (r : V → Hp → VK → Prop) : Prop :=
  ∀ (pins : List (Addr × Obj)) (s : Shared) (σ : St) (H : Hp) (x : V) (v : Value) (Q : VK), Inv X pins σ H s → RelV x v → r x H Q →
    wpAny (model X.prog X.w) X.A (f v) (EP X pins σ Q) X.xe s
noncomputable def CallR (X : Cx) (f : Value) (r : List V → Hp → VK → Prop) : Prop :=
  ∀ (pins : List (Addr × Obj)) (s : Shared) (σ : St) (H : Hp) (xs : List V) (us : List Value) (Q : VK), Inv X pins σ H s → Vals xs us → r xs H Q →
    wpAny (model X.prog X.w) X.A (call f us) (EP X pins σ Q) X.xe s
noncomputable def tOp (r : R2) (ta tb : TE) : TE := fun σ H Q => ta σ H fun x H1 => tb σ H1 fun y H2 => r x y H2 Q
noncomputable def tUn (r : V → Hp → VK → Prop) (ta : TE) : TE := fun σ H Q => ta σ H fun x H1 => r x H1 Q
noncomputable def rI (C : Int → Int → Prop) (g : Int → Int → V) : R2 := fun x y H Q => ∃ i j, x = .int i ∧ y = .int j ∧ C i j ∧ Q (g i j) H
noncomputable def rI0 (g : Int → Int → V) : R2 := fun x y H Q => ∃ i j, x = .int i ∧ y = .int j ∧ Q (g i j) H
noncomputable def rU (g : Int → V) : V → Hp → VK → Prop := fun x H Q => ∃ i, x = .int i ∧ Q (g i) H

section
variable {X : Cx} {a b c : Expr} {ta tb tc : TE} {pos : Pos}

theorem binT (ha : PE X a ta) (hb : PE X b tb) {pins : List (Addr × Obj)} {s : Shared} {σ : St} {H : Hp} {R : V → V → Hp → Prop} (I : Inv X pins σ H s)
    (h : ta σ H fun x H1 => tb σ H1 fun y H2 => R x y H2) {Q : Value → Shared → Prop} {f : Value → Value → Sem Value}
    (hf : ∀ v u s2 x y H2, Inv X pins σ H2 s2 → RelV x v → RelV y u → R x y H2 → wpAny (model X.prog X.w) X.A (f v u) Q X.xe s2) :
    wpAny (model X.prog X.w) X.A (eval a X.env) (fun v s₁ => wpAny (model X.prog X.w) X.A (eval b X.env) (fun u s₂ => wpAny (model X.prog X.w) X.A (f v u) Q X.xe s₂) X.xe s₁) X.xe s := by
  refine thn (ha pins s σ H _ I h) fun v s1 ⟨x, H1, I1, r1, q1⟩ => ?_
  refine thn (hb pins s1 σ H1 _ I1 q1) fun u s2 ⟨y, H2, I2, r2, q2⟩ => ?_
  exact hf v u s2 x y H2 I2 r1 r2 q2

theorem pe_op {op : Operator} {r : R2} (ho : OpR X (binaryOp op) r) (ha : PE X a ta) (hb : PE X b tb) : PE X (.BinOp a op b pos) (tOp r ta tb) := by
  intro pins s σ H Q I h
  exact wpAny_BinOp (binT ha hb I h fun v u s2 x y H2 I2 rx ry q => ho pins s2 σ H2 x y v u Q I2 rx ry q)
theorem pe_un {op : UnaryOp} {r : V → Hp → VK → Prop} (ho : UnR X (unaryOp op) r) (ha : PE X a ta) : PE X (.UnaryOp op a pos) (tUn r ta) := by
  intro pins s σ H Q I h
  exact UnaryOp_ (thn (ha pins s σ H _ I h) fun v s1 ⟨x, H1, I1, r1, q1⟩ => ho pins s1 σ H1 x v Q I1 r1 q1)
theorem opI {f : Value → Value → Sem Value} {C : Int → Int → Prop} {g : Int → Int → Int}
    (rule : ∀ (i j : Int) (t u : Tok) (s : Shared) (Q : Value → Shared → Prop) (E : Value → Shared → Prop), C i j → Q (.int (g i j) s.toks) { s with toks := s.toks + 1 } → wpAny (model X.prog X.w) X.A (f (.int i t) (.int j u)) Q E s) :
    OpR X f (rI C fun i j => .int (g i j)) := by
  intro pins s σ H x y v u Q I rx ry h
  obtain ⟨i, j, rfl, rfl, hc, q⟩ := h
  obtain ⟨t, rfl⟩ := rx
  obtain ⟨t', rfl⟩ := ry
  exact rule i j t t' s _ _ hc ⟨.int (g i j), H, I.tok _, ⟨_, rfl⟩, q⟩
theorem opI0 {f : Value → Value → Sem Value} {g : Int → Int → Int}
    (rule : ∀ (i j : Int) (t u : Tok) (s : Shared) (Q : Value → Shared → Prop) (E : Value → Shared → Prop), Q (.int (g i j) s.toks) { s with toks := s.toks + 1 } → wpAny (model X.prog X.w) X.A (f (.int i t) (.int j u)) Q E s) :
    OpR X f (rI0 fun i j => .int (g i j)) := by
  intro pins s σ H x y v u Q I rx ry h
  obtain ⟨i, j, rfl, rfl, q⟩ := h
  obtain ⟨t, rfl⟩ := rx
  obtain ⟨t', rfl⟩ := ry
  exact rule i j t t' s _ _ ⟨.int (g i j), H, I.tok _, ⟨_, rfl⟩, q⟩
theorem opB0 {f : Value → Value → Sem Value} {g : Int → Int → Bool}
    (rule : ∀ (i j : Int) (t u : Tok) (s : Shared) (Q : Value → Shared → Prop) (E : Value → Shared → Prop), Q (.bool (g i j)) s → wpAny (model X.prog X.w) X.A (f (.int i t) (.int j u)) Q E s) :
    OpR X f (rI0 fun i j => .bl (g i j)) := by
  intro pins s σ H x y v u Q I rx ry h
  obtain ⟨i, j, rfl, rfl, q⟩ := h
  obtain ⟨t, rfl⟩ := rx
  obtain ⟨t', rfl⟩ := ry
  exact rule i j t t' s _ _ ⟨.bl (g i j), H, I, rfl, q⟩

noncomputable def CDiv (i j : Int) : Prop := 0 < j ∧ j < 1073741824
noncomputable def CPow (i j : Int) : Prop := 0 ≤ j ∧ j ≤ 1000000 ∧ i.natAbs < 2 ^ 64
noncomputable def CMul (i j : Int) : Prop := (-(2 ^ 64) < i ∧ i < 2 ^ 64) ∨ (-(2 ^ 64) < j ∧ j < 2 ^ 64)
theorem CMul.ok {i j : Int} (h : CMul i j) : IntMulOk i j := by
  rcases h with ⟨h1, h2⟩ | ⟨h1, h2⟩
  · exact .of_left (intBits_le_64 h1 h2)
  · exact .of_right (intBits_le_64 h1 h2)
theorem op_add : OpR X (binaryOp .Add) (rI0 fun i j => .int (i + j)) := opI0 fun _ _ _ _ _ _ _ q => add_int q
theorem op_sub : OpR X (binaryOp .Sub) (rI0 fun i j => .int (i - j)) := opI0 fun _ _ _ _ _ _ _ q => sub_int q
theorem op_mul : OpR X (binaryOp .Mult) (rI CMul fun i j => .int (i * j)) := opI fun _ _ _ _ _ _ _ hc q => mul_int q hc.ok
theorem op_fdiv : OpR X (binaryOp .FloorDiv) (rI CDiv fun i j => .int (i / j)) := opI fun i j _ _ _ _ _ hc q => by
  have h1 : (0 : Int) < j := hc.1
  have h2 : j < 1073741824 := hc.2
  exact floordiv_int (by omega) (by rw [Int.fdiv_eq_ediv_of_nonneg i (by omega)]; exact q) (.inl (PyProof.noPylong_small (by omega)))
theorem op_mod : OpR X (binaryOp .Mod) (rI (fun _ j => 0 < j) fun i j => .int (i % j)) := opI fun i j _ _ _ _ _ hc q => by
  have h1 : (0 : Int) < j := hc
  exact mod_int' (by omega) (by rw [Int.fmod_eq_emod_of_nonneg i (by omega)]; exact q)
theorem op_pow : OpR X (binaryOp .Pow) (rI CPow fun i j => .int (i ^ j.toNat)) := opI fun _ _ _ _ _ _ _ hc q => pow_int_small hc.1 hc.2.1 hc.2.2 q
theorem unI {f : Value → Sem Value} {g : Int → Int}
    (rule : ∀ (i : Int) (t : Tok) (s : Shared) (Q : Value → Shared → Prop) (E : Value → Shared → Prop), Q (.int (g i) s.toks) { s with toks := s.toks + 1 } → wpAny (model X.prog X.w) X.A (f (.int i t)) Q E s) :
    UnR X f (rU fun i => .int (g i)) := by
  intro pins s σ H x v Q I rx h
  obtain ⟨i, rfl, q⟩ := h
  obtain ⟨t, rfl⟩ := rx
  exact rule i t s _ _ ⟨.int (g i), H, I.tok _, ⟨_, rfl⟩, q⟩
theorem un_neg : UnR X (unaryOp .USub) (rU fun i => .int (-i)) := unI fun _ _ _ _ _ q => neg_int q
end

noncomputable def scal : V → V → Bool
  | .non, .non => true | .non, .int _ => true | .int _, .non => true | .non, .bl _ => true | .bl _, .non => true | .non, .str _ => true | .str _, .non => true
  | .int _, .int _ => true | .bl _, .bl _ => true | .str _, .str _ => true | .byt _, .byt _ => true
  | .int _, .str _ => true | .str _, .int _ => true | .bl _, .str _ => true | .str _, .bl _ => true
  | _, _ => false
noncomputable def rEq : R2 := fun x y H Q => scal x y = true ∧ Q (.bl (decide (x = y))) H
noncomputable def rNe : R2 := fun x y H Q => scal x y = true ∧ Q (.bl (!decide (x = y))) H

theorem dec_int {i j : Int} : decide (V.int i = V.int j) = (i == j) := by
  rw [Bool.eq_iff_iff]
  simp
theorem dec_bl {i j : Bool} : decide (V.bl i = V.bl j) = (i == j) := by
  rw [Bool.eq_iff_iff]
  simp
theorem dec_str {i j : Str} : decide (V.str i = V.str j) = (i == j) := by
  rw [Bool.eq_iff_iff]
  simp
theorem dec_byt {i j : Array UInt8} : decide (V.byt i = V.byt j) = (i.toList == j.toList) := by
  rw [Bool.eq_iff_iff]
  cases i
  cases j
  simp

section
variable {X : Cx} {a b c : Expr} {ta tb tc : TE} {pos : Pos}
theorem fin_bl {pins : List (Addr × Obj)} {σ : St} {H : Hp} {s : Shared} {Q : VK} {k k' : Bool} (I : Inv X pins σ H s) (q : Q (.bl k) H) (e : k = k') : EP X pins σ Q (.bool k') s := by
  subst e
  exact ⟨.bl k, H, I, rfl, q⟩
theorem op_eq : OpR X (compareOp .Eq) rEq := by
  intro pins s σ H x y v u Q I rx ry h
  obtain ⟨hs, q⟩ := h
  cases x with
  | non =>
    cases rx
    cases y with
    | non => cases ry; exact PySem.EqNone.eq_none_none (fin_bl I q (by simp))
    | bl j => cases ry; exact PySem.EqNone.eq_none_bool (fin_bl I q (by simp))
    | int j => obtain ⟨t', rfl⟩ := ry; exact PySem.EqNone.eq_none_int (fin_bl I q (by simp))
    | str j => obtain ⟨t', rfl⟩ := ry; exact PySem.EqNone.eq_none_str (fin_bl I q (by simp))
    | _ => exact absurd (show false = true from hs) Bool.false_ne_true
  | bl i =>
    cases rx
    cases y with
    | non => cases ry; exact PySem.EqNone.eq_bool_none (fin_bl I q (by simp))
    | bl j => cases ry; exact eq_bool (fin_bl I q dec_bl)
    | str j => obtain ⟨t', rfl⟩ := ry; exact PySem.EqMixed.eq_bool_str (fin_bl I q (by simp))
    | _ => exact absurd (show false = true from hs) Bool.false_ne_true
  | int i =>
    obtain ⟨t, rfl⟩ := rx
    cases y with
    | non => cases ry; exact PySem.EqNone.eq_int_none (fin_bl I q (by simp))
    | int j => obtain ⟨t', rfl⟩ := ry; exact eq_int (fin_bl I q dec_int)
    | str j => obtain ⟨t', rfl⟩ := ry; exact PySem.EqMixed.eq_int_str (fin_bl I q (by simp))
    | _ => exact absurd (show false = true from hs) Bool.false_ne_true
  | str i =>
    obtain ⟨t, rfl⟩ := rx
    cases y with
    | non => cases ry; exact PySem.EqNone.eq_str_none (fin_bl I q (by simp))
    | bl j => cases ry; exact PySem.EqMixed.eq_str_bool (fin_bl I q (by simp))
    | int j => obtain ⟨t', rfl⟩ := ry; exact PySem.EqMixed.eq_str_int (fin_bl I q (by simp))
    | str j => obtain ⟨t', rfl⟩ := ry; exact eq_str (fin_bl I q dec_str)
    | _ => exact absurd (show false = true from hs) Bool.false_ne_true
  | byt i =>
    obtain ⟨t, rfl⟩ := rx
    cases y with
    | byt j => obtain ⟨t', rfl⟩ := ry; exact PySem.W.eq_bytes (fin_bl I q dec_byt)
    | _ => exact absurd (show false = true from hs) Bool.false_ne_true
  | _ => cases y <;> exact absurd (show false = true from hs) Bool.false_ne_true
theorem op_ne : OpR X (compareOp .NotEq) rNe := by
  intro pins s σ H x y v u Q I rx ry h
  obtain ⟨hs, q⟩ := h
  cases x with
  | non =>
    cases rx
    cases y with
    | non => cases ry; exact PySem.EqNone.ne_none_none (fin_bl I q (by simp))
    | bl j => cases ry; exact PySem.EqNone.ne_none_bool (fin_bl I q (by simp))
    | int j => obtain ⟨t', rfl⟩ := ry; exact PySem.EqNone.ne_none_int (fin_bl I q (by simp))
    | str j => obtain ⟨t', rfl⟩ := ry; exact PySem.EqNone.ne_none_str (fin_bl I q (by simp))
    | _ => exact absurd (show false = true from hs) Bool.false_ne_true
  | bl i =>
    cases rx
    cases y with
    | non => cases ry; exact PySem.EqNone.ne_bool_none (fin_bl I q (by simp))
    | bl j => cases ry; exact ne_bool (fin_bl I q (congrArg not dec_bl))
    | str j => obtain ⟨t', rfl⟩ := ry; exact PySem.EqMixed.ne_bool_str (fin_bl I q (by simp))
    | _ => exact absurd (show false = true from hs) Bool.false_ne_true
  | int i =>
    obtain ⟨t, rfl⟩ := rx
    cases y with
    | non => cases ry; exact PySem.EqNone.ne_int_none (fin_bl I q (by simp))
    | int j => obtain ⟨t', rfl⟩ := ry; exact ne_int (fin_bl I q (congrArg not dec_int))
    | str j => obtain ⟨t', rfl⟩ := ry; exact PySem.EqMixed.ne_int_str (fin_bl I q (by simp))
    | _ => exact absurd (show false = true from hs) Bool.false_ne_true
  | str i =>
    obtain ⟨t, rfl⟩ := rx
    cases y with
    | non => cases ry; exact PySem.EqNone.ne_str_none (fin_bl I q (by simp))
    | bl j => cases ry; exact PySem.EqMixed.ne_str_bool (fin_bl I q (by simp))
    | int j => obtain ⟨t', rfl⟩ := ry; exact PySem.EqMixed.ne_str_int (fin_bl I q (by simp))
    | str j => obtain ⟨t', rfl⟩ := ry; exact ne_str (fin_bl I q (congrArg not dec_str))
    | _ => exact absurd (show false = true from hs) Bool.false_ne_true
  | byt i =>
    obtain ⟨t, rfl⟩ := rx
    cases y with
    | byt j => obtain ⟨t', rfl⟩ := ry; exact PySem.W.ne_bytes (fin_bl I q (congrArg not dec_byt))
    | _ => exact absurd (show false = true from hs) Bool.false_ne_true
  | _ => cases y <;> exact absurd (show false = true from hs) Bool.false_ne_true

theorem op_lt : OpR X (compareOp .Lt) (rI0 fun i j => .bl (decide (i < j))) := opB0 fun _ _ _ _ _ _ _ q => lt_int q
theorem op_le : OpR X (compareOp .LtE) (rI0 fun i j => .bl (decide (i ≤ j))) := opB0 fun _ _ _ _ _ _ _ q => le_int q
theorem op_gt : OpR X (compareOp .Gt) (rI0 fun i j => .bl (decide (j < i))) := opB0 fun _ _ _ _ _ _ _ q => gt_int q
theorem op_ge : OpR X (compareOp .GtE) (rI0 fun i j => .bl (decide (j ≤ i))) := opB0 fun _ _ _ _ _ _ _ q => ge_int q
theorem OpR.or {f : Value → Value → Sem Value} {r r' : R2} (h : OpR X f r) (h' : OpR X f r') : OpR X f (fun x y H Q => r x y H Q ∨ r' x y H Q) := by
  intro pins s σ H x y v u Q I rx ry q
  rcases q with q | q
  · exact h pins s σ H x y v u Q I rx ry q
  · exact h' pins s σ H x y v u Q I rx ry q

theorem nomark (b : Expr) {op : CmpOp} (h : op ≠ .In := by decide) (h2 : op ≠ .NotIn := by decide) : behindInMarks op b = false := by
  have e1 : (op == CmpOp.In) = false := by cases op <;> first | rfl | exact absurd rfl h
  have e2 : (op == CmpOp.NotIn) = false := by cases op <;> first | rfl | exact absurd rfl h2
  cases b <;> simp [behindInMarks, e1, e2]
theorem pe_cmpR {op : CmpOp} {r : R2} (ho : OpR X (compareOp op) r) (ha : PE X a ta) (hb : PE X b tb) (hm : behindInMarks op b = false) : PE X (.Compare a [op] [b] pos) (tOp r ta tb) := by
  intro pins s σ H Q I h
  exact wpAny_Compare1 (binT ha hb I h fun v u s2 x y H2 I2 rx ry q => ho pins s2 σ H2 x y v u Q I2 rx ry q) hm
noncomputable def tTest (t : TE) : TT := fun σ H Q => t σ H fun x H' => ∃ k, x = .bl k ∧ Q k H'
theorem pt_cmpR {op : CmpOp} {r : R2} (ho : OpR X (compareOp op) r) (ha : PE X a ta) (hb : PE X b tb) (hm : behindInMarks op b = false) : PT X (.Compare a [op] [b] pos) (tTest (tOp r ta tb)) := by
  intro pins s σ H Q I h
  refine wpAny_isTrue_Compare1 (thn (ha pins s σ H _ I h) fun v s1 ⟨x, H1, I1, r1, q1⟩ => thn (hb pins s1 σ H1 _ I1 q1) fun u s2 ⟨y, H2, I2, r2, q2⟩ =>
    thn (ho pins s2 σ H2 x y v u _ I2 r1 r2 q2) fun c s3 ⟨z, H3, I3, r3, k, e, q3⟩ => ?_) hm
  subst e
  cases r3
  exact wpAny_truthy_bool ⟨H3, I3, q3⟩
noncomputable def tChain (r r' : R2) (ta tb tc : TE) : TE := fun σ H Q => ta σ H fun x H1 => tb σ H1 fun y H2 => r x y H2 fun z H3 => ∃ k, z = .bl k ∧
  (if k = true then tc σ H3 fun w' H4 => r' y w' H4 Q else Q (.bl false) H3)
theorem pe_chain {op op' : CmpOp} {r r' : R2} (ho : OpR X (compareOp op) r) (ho' : OpR X (compareOp op') r') (ha : PE X a ta) (hb : PE X b tb) (hc : PE X c tc)
    (hm : lastMarks [op, op'] [b, c] = false := by with_unfolding_all rfl) : PE X (.Compare a [op, op'] [b, c] pos) (tChain r r' ta tb tc) := by
  intro pins s σ H Q I h
  refine Compare_chain (thn (ha pins s σ H _ I h) fun v s1 ⟨x, H1, I1, r1, q1⟩ => chain_link (thn (hb pins s1 σ H1 _ I1 q1) fun u s2 ⟨y, H2, I2, r2, q2⟩ =>
    thn (ho pins s2 σ H2 x y v u _ I2 r1 r2 q2) fun d s3 ⟨z, H3, I3, r3, k, e, q3⟩ => ?_)) hm
  subst e
  cases r3
  refine wpAny_truthy_bool ?_
  cases k with
  | false => exact ite_ff ⟨.bl false, H3, I3, rfl, q3⟩
  | true => exact ite_tt (chain_last (thn (hc pins s3 σ H3 _ I3 q3) fun w' s4 ⟨z', H4, I4, r4, q4⟩ => ho' pins s4 σ H4 y z' u w' Q I4 r2 r4 q4))
theorem line63 : (sizeLine : Nat) < 2 ^ 63 := by rw [sizeLine_eq]; decide
theorem vals1 {x : V} {us : List Value} (r : Vals [x] us) : ∃ u, us = [u] ∧ RelV x u := by
  cases r with
  | cons r1 r2 => cases r2; exact ⟨_, rfl, r1⟩
theorem vals2 {x y : V} {us : List Value} (r : Vals [x, y] us) : ∃ u w', us = [u, w'] ∧ RelV x u ∧ RelV y w' := by
  cases r with
  | cons r1 r2 =>
    cases r2 with
    | cons r3 r4 => cases r4; exact ⟨_, _, rfl, r1, r3⟩
theorem call_abs : CallR X (.builtin "abs") (fun xs H Q => ∃ i, xs = [.int i] ∧ Q (.int (if i < 0 then -i else i)) H) := by
  intro pins s σ H xs us Q I r h
  obtain ⟨i, rfl, q⟩ := h
  obtain ⟨u, rfl, t, rfl⟩ := vals1 r
  exact call_abs_int fun u tk => ⟨.int (if i < 0 then -i else i), H, I.tok _, ⟨_, rfl⟩, q⟩
theorem call_int1 : CallR X (.type "int") (fun xs H Q => (∃ i, xs = [.int i] ∧ Q (.int i) H) ∨ ∃ k, xs = [.bl k] ∧ Q (.int (if k then 1 else 0)) H) := by
  intro pins s σ H xs us Q I r h
  rcases h with ⟨i, rfl, q⟩ | ⟨k, rfl, q⟩
  · obtain ⟨u, rfl, t, rfl⟩ := vals1 r
    exact call_int_int ⟨.int i, H, I, ⟨_, rfl⟩, q⟩
  · obtain ⟨u, rfl, r1⟩ := vals1 r
    cases r1
    exact call_int_bool ⟨.int (if k then 1 else 0), H, I.tok _, ⟨_, rfl⟩, q⟩
end
end L2

namespace L2
open PySem PySem.Spec PyProof.Rows

structure ObjM (h : Heap) (x dx C : Addr) (mA : Str → Option Value) : Prop where
  obj : h.get? x = some (PySem.W.instObj C dx)
  ns : h.Ns1 dx mA
  ne : dx ≠ x

theorem lookIn_ns {h : Heap} {dx : Addr} {mA : Str → Option Value} (n : h.Ns1 dx mA) : ∃ od, h.get? dx = some od ∧ ∀ name, PySem.W.lookIn name od = some (mA name) := by
  obtain ⟨o, es, ep, ho, hd, hk, _, hm⟩ := n
  refine ⟨o, ho, fun name => ?_⟩
  have e := hm name
  unfold nsFind findBy at e
  rw [← Array.find?_toList] at e
  unfold PySem.W.lookIn
  rw [hd]
  dsimp only
  split
  · rename_i y q
    rw [q] at e
    exact congrArg some e
  · rename_i q
    rw [q] at e
    have a : es.toList.any (·.refKey) = false := by
      rw [List.any_eq_false]
      intro y hy
      obtain ⟨z, t, hkey⟩ := hk y (Array.mem_toList_iff.mp hy)
      simp [DictEntry.refKey, hkey]
    have a' : ¬ es.toList.any (·.refKey) = true := by rw [a]; exact Bool.false_ne_true
    rw [if_neg a']
    exact congrArg some e

theorem ObjM.look {h : Heap} {x dx C : Addr} {mA : Str → Option Value} (I : ObjM h x dx C mA) : ∃ od, PySem.W.InstAt h x (PySem.W.instObj C dx) C (some od) ∧ ∀ name, PySem.W.lookIn name od = some (mA name) :=
  let ⟨od, ho, hl⟩ := lookIn_ns I.ns
  ⟨od, ⟨I.obj, rfl, rfl, ho⟩, hl⟩

section
variable {prog : Program} {w : World} {A : Around} {E : Value → Shared → Prop} {s : Shared} {K : PySem.W.Frag} {x dx C f : Addr} {mA : Str → Option Value} {name : Str} {v : Value}

theorem get_map {expr : Bool} {Q : Value → Shared → Prop} (X : K.In s.heap) (I : ObjM s.heap x dx C mA) (hg : PySem.W.plainGet K C name = true) (hh : PySem.W.hasDictIn K C = true)
    (ha : PySem.W.findIn K (.ref C) name = some none) (hv : mA name = some v) (hv' : PySem.W.handedIn v = true) (h : Q v { s with toks := s.toks + 1 }) :
    wpAny (model prog w) A (getAttr (.ref x) name expr) Q E s := by
  obtain ⟨od, J, hl⟩ := I.look
  exact PySem.W.get_value X J (PySem.W.plainGet_of hg).1 (PySem.W.findObj_own hh ha rfl (by rw [hl, hv])) hv' h

theorem get_meth {pl : Sem Bool} {Q : Value × List Value → Shared → Prop} (X : K.In s.heap) (I : ObjM s.heap x dx C mA) (hg : PySem.W.plainGet K C name = true)
    (hf : PySem.W.findIn K (.ref C) name = some (some (.ref f))) (ht : PySem.W.isFn K (.ref f) = true) (hv : mA name = none) (h : Q (.ref f, [.ref x]) s) :
    wpAny (model prog w) A (getMethod (.ref x) name pl) Q E s := by
  obtain ⟨od, J, hl⟩ := I.look
  exact PySem.W.method_fn X J (PySem.W.plainGet_of hg).1 (PySem.W.plainGet_of hg).2 hf (beq_iff_eq.mp ht) (by show (PySem.W.lookIn name od).map (·.isSome) = some false; rw [hl, hv]; rfl) h

theorem set_map {ns : List Str} {Q : Unit → Shared → Prop} (X : K.In s.heap) (I : ObjM s.heap x dx C mA)
    (hs : PySem.W.findIn K (.ref C) "__setattr__" = some (some (.builtin "object.__setattr__"))) (hp : PySem.W.plainOver K C = true) (ht : PySem.W.takerIn K C name = some none) (hh : PySem.W.hasDictIn K C = true)
    (hw : PySem.Within mA ns) (hsz : ns.length ≤ sizeLine)
    (h : ∀ h', ObjM h' x dx C (fun y => if y = name then some v else mA y) → Heap.SameBut dx s.heap h' → Q () { s with heap := h', toks := s.toks + 2 }) :
    wpAny (model prog w) A (setAttr (.ref x) name v) Q E s := by
  obtain ⟨od, J, hl⟩ := I.look
  refine PySem.W.set_plain X J hs (PySem.W.osa_open (s := { s with toks := s.toks + 1 }) (r := none) X J hp ht fun b => ?_)
  obtain ⟨cd, hc, hd'⟩ := PySem.W.any_some hh
  have hx : s.heap.get? x = some ⟨.ref C, some dx, .plain, #[]⟩ := I.obj
  refine wpAny_bind (wpAny_pure (wpAny_bind (wpAny_bind (wpAny_loadPart hx (wpAny_bind (PySem.W.Looks.here (s := { s with toks := s.toks + 1 }) (PySem.W.looks_clsIn X hc) ?_))))))
  rw [hd']
  refine wpAny_pure (a := some dx) (wpAny_bind (wpAny_pure (wpAny_bind ?_)))
  refine wpAny_nsSet1 (s := { s with toks := s.toks + 1 }) I.ns fun h' hn2 hs2 => ?_
  obtain ⟨oD, esD, epD, hoD, hdD, hcD⟩ := hn2.count (PySem.Within.cons name v hw)
  refine wpAny_bind (wpAny_lookBehind hoD (by rw [hdD]; exact pastItsLine_dict (Nat.le_trans hcD (by rw [List.length_cons]; omega))) ?_)
  exact wpAny_pure (h _ ⟨(hs2.2 _ (Ne.symm I.ne)).trans I.obj, hn2, I.ne⟩ hs2)

theorem make_map {R : Result → Shared → Prop} {vs : List Value} {kw : List (Str × Value)} (X : K.In s.heap) (hm : PySem.W.makesIn K C = true)
    (hi : PySem.W.findIn K (.ref C) "__init__" = some (some (.ref f))) (hf : PySem.W.typeIn K (.ref f) = some (.type "function"))
    (h : codeAny (model prog w) (A.under (.builtin "type.__call__" ⟨.ref C :: vs, kw⟩)) (.call (.ref f) ⟨.ref (s.heap.objs.size + 1) :: vs, kw⟩) (PySem.W.InitBack (s.heap.objs.size + 1) R)
      { s with heap := (s.heap.push PySem.W.emptyDict).push (PySem.W.instObj C s.heap.objs.size) }) :
    codeAny (model prog w) A (.call (.ref C) ⟨vs, kw⟩) R s := by
  obtain ⟨hh, g, d, t, os⟩ := s
  exact PySem.W.make_core (PySem.W.makes_of X hm) (PySem.W.looks_findIn X hi) (fun self => PySem.W.bind_fn X self hf) (.inl rfl) h
end

noncomputable def putF (f : Str) (v : V) : List (Str × V) → List (Str × V)
  | [] => [(f, v)]
  | (g, x) :: r => if g = f then (g, v) :: r else (g, x) :: putF f v r
theorem lookup_putF (f g : Str) (v : V) : ∀ fs : List (Str × V), (putF f v fs).lookup g = if g = f then some v else fs.lookup g
  | [] => by
    show List.lookup g [(f, v)] = _
    by_cases h : g = f
    · have hb : (g == f) = true := beq_iff_eq.mpr h
      simp only [List.lookup, hb, if_pos h]
    · have hb : (g == f) = false := beq_eq_false_iff_ne.mpr h
      simp only [List.lookup, hb, if_neg h]
  | (k, x) :: r => by
    have ih := lookup_putF f g v r
    rw [show putF f v ((k, x) :: r) = (if k = f then (k, v) :: r else (k, x) :: putF f v r) from rfl]
    by_cases hk : k = f
    · rw [if_pos hk]
      by_cases h : g = k
      · have hb : (g == k) = true := beq_iff_eq.mpr h
        simp only [List.lookup, hb, if_pos (h.trans hk)]
      · have hb : (g == k) = false := beq_eq_false_iff_ne.mpr h
        simp only [List.lookup, hb, if_neg (fun e : g = f => h (e.trans hk.symm))]
    · rw [if_neg hk]
      by_cases h : g = k
      · have hb : (g == k) = true := beq_iff_eq.mpr h
        simp only [List.lookup, hb, if_neg (fun e : g = f => hk (h.symm.trans e))]
      · have hb : (g == k) = false := beq_eq_false_iff_ne.mpr h
        simp only [List.lookup, hb]
        exact ih
theorem keys_putF (f : Str) (v : V) : ∀ fs : List (Str × V), f ∈ (putF f v fs).map (·.1) ∧ ∀ g, g ∈ fs.map (·.1) → g ∈ (putF f v fs).map (·.1)
  | [] => ⟨by simp [putF], fun g h => by simp at h⟩
  | (k, x) :: r => by
    obtain ⟨i1, i2⟩ := keys_putF f v r
    rw [show putF f v ((k, x) :: r) = (if k = f then (k, v) :: r else (k, x) :: putF f v r) from rfl]
    by_cases hk : k = f
    · rw [if_pos hk]
      subst hk
      exact ⟨by simp, fun g h => by simpa using h⟩
    · rw [if_neg hk]
      refine ⟨?_, fun g h => ?_⟩
      · rw [List.map_cons]
        exact List.mem_cons_of_mem _ i1
      · rw [List.map_cons] at h ⊢
        rcases List.mem_cons.mp h with e | e
        · exact List.mem_cons.mpr (.inl e)
        · exact List.mem_cons_of_mem _ (i2 g e)
theorem length_putF (f : Str) (v : V) : ∀ fs : List (Str × V), (putF f v fs).length ≤ fs.length + 1
  | [] => by simp [putF]
  | (k, x) :: r => by
    have ih := length_putF f v r
    rw [show putF f v ((k, x) :: r) = (if k = f then (k, v) :: r else (k, x) :: putF f v r) from rfl]
    by_cases hk : k = f
    · rw [if_pos hk, List.length_cons, List.length_cons]; omega
    · rw [if_neg hk, List.length_cons, List.length_cons]; omega

theorem RelO.some_of {v : V} {o : Option Value} (r : RelO (some v) o) : ∃ u, o = some u ∧ RelV v u := by
  cases o with
  | none => exact (show False from r).elim
  | some u => exact ⟨u, rfl, r⟩
theorem RelO.none_of {o : Option Value} (r : RelO none o) : o = none := by
  cases o with
  | none => rfl
  | some u => exact (show False from r).elim
theorem handed_of {v : V} {u : Value} (r : RelV v u) : PySem.W.handedIn u = true := by
  cases v with
  | non => cases (show u = Value.none from r); rfl
  | bl b => cases (show u = Value.bool b from r); rfl
  | int i => obtain ⟨t, e⟩ := (show ∃ t, u = Value.int i t from r); cases e; rfl
  | str x => obtain ⟨t, e⟩ := (show ∃ t, u = Value.str x t from r); cases e; rfl
  | byt b => obtain ⟨t, e⟩ := (show ∃ t, u = Value.bytes b t from r); cases e; rfl
  | flt b => obtain ⟨t, e⟩ := (show ∃ t, u = Value.float b t from r); cases e; rfl
  | ref a => cases (show u = Value.ref a from r); rfl
  | ty n => cases (show u = Value.type n from r); rfl

section
variable {P : Program} {w : World} {H H' : Hp} {h h' : Heap} {a C dx : Addr} {fs fs' : List (Str × V)}
theorem ins_get (hok : HOk P w H h) (e : H a = some (.ins C dx fs)) : ∃ mA, ObjM h a dx C mA ∧ (∀ f, RelO (fs.lookup f) (mA f)) ∧ PySem.Within mA (fs.map (·.1)) ∧ fs.length ≤ 1000 ∧ H dx = some (.own a) := by
  obtain ⟨d, z, ne, ob, mA, n, r, q⟩ := (show ObjOk P w H h a (.ins C dx fs) from hok a _ e)
  exact ⟨mA, ⟨ob, n, ne⟩, r, q, z, d⟩
end

structure Cls (K : PySem.W.Frag) (C : Addr) : Prop where
  pg : PySem.W.plainGet K C Str.empty = true
  hd : PySem.W.hasDictIn K C = true
  po : PySem.W.plainOver K C = true
  sa : PySem.W.findIn K (.ref C) "__setattr__" = some (some (.builtin "object.__setattr__"))
theorem Cls.get {K : PySem.W.Frag} {C : Addr} (c : Cls K C) (f : Str) : PySem.W.plainGet K C f = true := c.pg
noncomputable def NoAttr (K : PySem.W.Frag) (C : Addr) (f : Str) : Prop := PySem.W.findIn K (.ref C) f = some none
theorem NoAttr.taker {K : PySem.W.Frag} {C : Addr} {f : Str} (n : NoAttr K C f) : PySem.W.takerIn K C f = some none := by
  unfold PySem.W.takerIn
  rw [show PySem.W.findIn K (.ref C) f = some none from n]
  rfl
structure Meth (K : PySem.W.Frag) (C : Addr) (m : Str) (f : Addr) : Prop where
  at_ : PySem.W.findIn K (.ref C) m = some (some (.ref f))
  fn : PySem.W.isFn K (.ref f) = true
  kp : PySem.W.keepIn K (.ref f) = true

section
variable {X : Cx} {pins : List (Addr × Obj)} {σ : St} {H : Hp} {s : Shared} {a C dx : Addr} {fs : List (Str × V)} {f : Str} {v : V} {A : Around} {E : Value → Shared → Prop}

theorem getattr_ok {b : Bool} {Q : Value → Shared → Prop} (I : Inv X pins σ H s) (e : H a = some (.ins C dx fs)) (c : Cls X.K C) (n : NoAttr X.K C f) (l : fs.lookup f = some v)
    (h : ∀ u s', Inv X pins σ H s' → RelV v u → Q u s') : wpAny (model X.prog X.w) A (getAttr (.ref a) f b) Q E s := by
  obtain ⟨mA, O, r, _, _, _⟩ := ins_get I.hok e
  obtain ⟨u, hu, ru⟩ := RelO.some_of (v := v) (o := mA f) (by rw [← l]; exact r f)
  exact get_map I.kIn O (c.get f) c.hd n hu (handed_of ru) (h u _ (I.tok _) ru)

theorem getmeth_ok {m : Str} {g : Addr} {pl : Sem Bool} {Q : Value × List Value → Shared → Prop} (I : Inv X pins σ H s) (e : H a = some (.ins C dx fs)) (c : Cls X.K C) (k : Meth X.K C m g) (l : fs.lookup m = none)
    (h : Q (.ref g, [.ref a]) s) : wpAny (model X.prog X.w) A (getMethod (.ref a) m pl) Q E s := by
  obtain ⟨mA, O, r, _, _, _⟩ := ins_get I.hok e
  have hn : mA m = none := RelO.none_of (by rw [← l]; exact r m)
  exact get_meth I.kIn O (c.get m) k.at_ k.fn hn h

theorem setattr_ok {y : V} {u : Value} {Q : Unit → Shared → Prop} (I : Inv X pins σ H s) (e : H a = some (.ins C dx fs)) (c : Cls X.K C) (n : NoAttr X.K C f) (hl : fs.length < 1000) (ry : RelV y u)
    (h : ∀ s', Inv X pins σ (upd H a (.ins C dx (putF f y fs))) s' → Q () s') : wpAny (model X.prog X.w) A (setAttr (.ref a) f u) Q E s := by
  obtain ⟨mA, O, r, wi, _, ho⟩ := ins_get I.hok e
  have hz : (fs.map (·.1)).length ≤ sizeLine := by rw [List.length_map, sizeLine_eq]; omega
  refine set_map I.kIn O c.sa c.po n.taker c.hd wi hz fun h' O' sb => h _ ?_
  have hd : ∃ o, h'.get? dx = some o := let ⟨o, _, _, e', _⟩ := O'.ns; ⟨o, e'⟩
  refine I.write (x := a) (e := dx) (by rw [e]; exact True.intro) (.inr ho) (fun b q hb z => (sb.2 b hb).trans z) hd ?_
  refine ⟨by rw [upd_ne O.ne]; exact ho, ?_, O.ne, O'.obj, _, O'.ns, fun g => ?_, fun g hg => ?_⟩
  · have := length_putF f y fs; omega
  · show RelO ((putF f y fs).lookup g) (if g = f then some u else mA g)
    rw [lookup_putF]
    by_cases q : g = f
    · rw [if_pos q, if_pos q]; exact ry
    · rw [if_neg q, if_neg q]; exact r g
  · by_cases q : g = f
    · rw [q]; exact (keys_putF f y fs).1
    · refine (keys_putF f y fs).2 g (wi g fun z => hg ?_)
      show (if g = f then some u else mA g) = none
      rw [if_neg q]; exact z

theorem Inv.made (I : Inv X pins σ H s) : Inv X pins σ (upd (upd H s.heap.objs.size (.own (s.heap.objs.size + 1))) (s.heap.objs.size + 1) (.ins C s.heap.objs.size []))
    { s with heap := (s.heap.push PySem.W.emptyDict).push (PySem.W.instObj C s.heap.objs.size) } := by
  have e1 : (s.heap.push PySem.W.emptyDict).get? s.heap.objs.size = some PySem.W.emptyDict := Heap.get?_push_size s.heap rfl
  have e2 : ((s.heap.push PySem.W.emptyDict).push (PySem.W.instObj C s.heap.objs.size)).get? (s.heap.objs.size + 1) = some (PySem.W.instObj C s.heap.objs.size) := by
    have := Heap.get?_push_size (s.heap.push PySem.W.emptyDict) (o := PySem.W.instObj C s.heap.objs.size) rfl
    rwa [Heap.size_push] at this
  have e3 : (s.heap.push PySem.W.emptyDict).Ns s.heap.objs.size (fun _ => none) := ⟨PySem.W.emptyDict, #[], _, e1, rfl, (fun e he => absurd he (by simp)), fun _ => rfl⟩
  have I1 := I.laid (a := s.heap.objs.size) (o := .own (s.heap.objs.size + 1)) (h' := s.heap.push PySem.W.emptyDict) (t' := s.toks) (fun b u q => Heap.get?_push_of_some _ q) (Nat.le_refl _) ⟨_, e1⟩
  refine I1.laid (a := s.heap.objs.size + 1) (o := .ins C s.heap.objs.size []) (t' := s.toks) (fun b u q => Heap.get?_push_of_some _ q) (Nat.le_of_eq (Heap.size_push _ _)) ?_
  have ne : s.heap.objs.size ≠ s.heap.objs.size + 1 := Nat.ne_of_lt (Nat.lt_succ_self _)
  refine ⟨by rw [upd_ne ne, upd_same], Nat.zero_le _, ne, e2, fun _ => none, (Heap.Ns1.of_empty e3).at fun o q => Heap.get?_push_of_some _ q, fun _ => True.intro, fun y hy => absurd rfl hy⟩

theorem attr_of {prog : Program} {w : World} {env : Env} {e : Expr} {f : Str} {pos : Pos} {s : Shared} {Q : Value → Shared → Prop} (hb : attributeBase e f env (eval e env) = eval e env)
    (h : wpAny (model prog w) A (eval e env) (fun o s₁ => wpAny (model prog w) A (getAttr o f true) Q E s₁) E s) : wpAny (model prog w) A (eval (.Attribute e f pos) env) Q E s :=
  Attribute_any_ h (by rw [arm_eval_Attribute, hb])
end

noncomputable def tFld (K : PySem.W.Frag) (ta : TE) (f : Str) : TE := fun σ H Q => ta σ H fun x H1 => ∃ a C dx fs v, x = .ref a ∧ H1 a = some (.ins C dx fs) ∧ Cls K C ∧ NoAttr K C f ∧ fs.lookup f = some v ∧ Q v H1
noncomputable def sFld (K : PySem.W.Frag) (ta tv : TE) (f : Str) : TS := fun D σ H => tv σ H fun y H1 => ta σ H1 fun x H2 => ∃ a C dx fs, x = .ref a ∧ H2 a = some (.ins C dx fs) ∧ Cls K C ∧ NoAttr K C f ∧ fs.length < 1000 ∧
  D.nx σ (upd H2 a (.ins C dx (putF f y fs)))
section
variable {X : Cx} {o e value : Expr} {f : Str} {pos pos' tpos : Pos} {ta tv : TE}
theorem pe_fld (he : PE X e ta) (hb : attributeBase e f X.env (eval e X.env) = eval e X.env) : PE X (.Attribute e f pos) (tFld X.K ta f) := by
  intro pins s σ H Q I h
  refine attr_of hb (thn (he pins s σ H _ I h) fun u s1 ⟨x, H1, I1, rx, a, C, dx, fs, v, ex, ea, c, n, l, q⟩ => ?_)
  subst ex
  obtain rfl : u = Value.ref a := rx
  exact getattr_ok I1 ea c n l fun u' s2 I2 ru => ⟨v, H1, I2, ru, q⟩
theorem ps_fld (ha : PE X o ta) (hv : PE X value tv) (hs : swapsWith value (some (.Attribute o f pos')) pos.line X.env = pure false) : PS X (.Assign [.Attribute o f pos'] value pos) (sFld X.K ta tv f) := by
  intro pins s σ H D I h
  refine plainObj_wpAny_Assign_Attribute (thn (hv pins s σ H _ I h) fun u s1 ⟨y, H1, I1, ry, q⟩ => thn (ha pins s1 σ H1 _ I1 q) fun ov s2 ⟨x, H2, I2, rx, a, C, dx, fs, ex, ea, c, n, l, q2⟩ => ?_) hs
  subst ex
  obtain rfl : ov = Value.ref a := rx
  exact setattr_ok I2 ea c n l ry fun s3 I3 => ⟨σ, _, I3, q2⟩
end

section
variable {X : Cx} {pins : List (Addr × Obj)} {σ : St} {H : Hp} {s : Shared} {A : Around} {E : Value → Shared → Prop} {Q : Value → Shared → Prop} {c : Value} {b : Bool}
inductive TyOf (K : PySem.W.Frag) (H : Hp) : V → Value → Prop where
  | non : TyOf K H .non (.type "NoneType")
  | bl (x : Bool) : TyOf K H (.bl x) (.type "bool")
  | int (i : Int) : TyOf K H (.int i) (.type "int")
  | str (x : Str) : TyOf K H (.str x) (.type "str")
  | flt (x : UInt64) : TyOf K H (.flt x) (.type "float")
  | lst {a : Addr} {xs : List V} (e : H a = some (.lst xs)) : TyOf K H (.ref a) (.type "list")
  | frz {a : Addr} {o : Obj} {xs : List V} (e : H a = some (.frz o (.lst xs))) : TyOf K H (.ref a) (.type "list")
  | tup {a : Addr} {xs : List V} (e : H a = some (.tup xs)) : TyOf K H (.ref a) (.type "tuple")
  | dK {a : Addr} {kvs : List (Key × V)} (e : H a = some (.dK kvs)) : TyOf K H (.ref a) (.type "dict")
  | dT {a : Addr} {kvs : List (List Key × V)} (e : H a = some (.dT kvs)) : TyOf K H (.ref a) (.type "dict")
  | ins {a C dx : Addr} {fs : List (Str × V)} (e : H a = some (.ins C dx fs)) (cl : Cls K C) (ha : PySem.W.findIn K (.ref C) "__class__" = some (some (.builtin "object.__class__")))
      (hn : PySem.W.specialIn K (.builtin "object.__class__") "__get__" = some (some (.builtin "getset_descriptor.__get__"))) (htk : PySem.W.takesIn K (.builtin "object.__class__") = some true)
      (hm : PySem.W.mroIn K C (.type "object") = some true) : TyOf K H (.ref a) (.ref C)
theorem isinst_ok {x : V} {u t : Value} (I : Inv X pins σ H s) (rx : RelV x u) (ty : TyOf X.K H x t) (e : PySem.W.kitOne X.K t c = some b) (h : ∀ tk, Q (.bool b) { s with toks := tk }) :
    wpAny (model X.prog X.w) A (call (.builtin "isinstance") [u, c]) Q E s := by
  cases ty with
  | non => cases (show u = Value.none from rx); exact PySem.W.kia_one PySem.W.kitx_none I.kIn True.intro e (fun z => nomatch z) h
  | bl y => cases (show u = Value.bool y from rx); exact PySem.W.kia_one PySem.W.kitx_bool I.kIn True.intro e (fun z => nomatch z) h
  | int i => obtain ⟨t, q⟩ := (show ∃ t, u = Value.int i t from rx); cases q; exact PySem.W.kia_one PySem.W.kitx_int I.kIn True.intro e (fun z => nomatch z) h
  | str y => obtain ⟨t, q⟩ := (show ∃ t, u = Value.str y t from rx); cases q; exact PySem.W.kia_one PySem.W.kitx_str I.kIn True.intro e (fun z => nomatch z) h
  | flt y => obtain ⟨t, q⟩ := (show ∃ t, u = Value.float y t from rx); cases q; exact PySem.W.kia_one PySem.W.kitx_float I.kIn True.intro e (fun z => nomatch z) h
  | @lst a xs ea =>
    cases (show u = Value.ref a from rx)
    obtain ⟨_, _, n, _, h1⟩ := (show ObjOk X.prog X.w H s.heap a (.lst xs) from I.hok a _ ea)
    exact PySem.W.kia_one PySem.W.kitx_list I.kIn ⟨_, h1, rfl⟩ e (fun z => nomatch z) h
  | @frz a ob xs ea =>
    cases (show u = Value.ref a from rx)
    obtain ⟨_, _, _, n, _, h1⟩ := (show ObjOk X.prog X.w H s.heap a (.frz ob (.lst xs)) from I.hok a _ ea)
    exact PySem.W.kia_one PySem.W.kitx_list I.kIn ⟨_, h1, rfl⟩ e (fun z => nomatch z) h
  | @tup a xs ea =>
    cases (show u = Value.ref a from rx)
    obtain ⟨_, _, _, p⟩ := (show ObjOk X.prog X.w H s.heap a (.tup xs) from I.hok a _ ea)
    obtain ⟨o, h1, h2, _⟩ := p
    exact PySem.W.kia_one PySem.W.kitx_tuple I.kIn ⟨o, h1, h2⟩ e (fun z => nomatch z) h
  | @dK a kvs ea =>
    cases (show u = Value.ref a from rx)
    obtain ⟨_, _, vs, _, p⟩ := (show ObjOk X.prog X.w H s.heap a (.dK kvs) from I.hok a _ ea)
    obtain ⟨o, es, ep, h1, h2, _⟩ := p
    exact PySem.W.kia_one PySem.W.kitx_dict I.kIn ⟨o, h1, h2.1⟩ e (fun z => nomatch z) h
  | @dT a kvs ea =>
    cases (show u = Value.ref a from rx)
    obtain ⟨_, _, xs, _, o, es, ep, h1, h2, _⟩ := (show ObjOk X.prog X.w H s.heap a (.dT kvs) from I.hok a _ ea)
    exact PySem.W.kia_one PySem.W.kitx_dict I.kIn ⟨o, h1, h2.1⟩ e (fun z => nomatch z) h
  | @ins a C dx fs ea cl ha hn htk hm =>
    cases (show u = Value.ref a from rx)
    obtain ⟨mA, O, _⟩ := ins_get I.hok ea
    obtain ⟨od, J, _⟩ := O.look
    exact PySem.W.kia_one (PySem.W.kitx_own (cl.get _) cl.hd ha hn htk hm) I.kIn J e (fun z => nomatch z) h
end
end L2

namespace L2
open PySem PySem.Spec PyProof.Rows

structure Room (k : Nat) (A : Around) : Prop where
  hd : A.handled = none
  dp : A.depth + 3 * k + 5 < recursionLimit
  un : A.units + 16 * k + 200 < cLine
theorem Room.mono {j k : Nat} {A : Around} (r : Room k A) (h : j ≤ k) : Room j A := ⟨r.hd, by have := r.dp; omega, by have := r.un; omega⟩
theorem Room.deeper {k : Nat} {A : Around} (r : Room (k + 1) A) (env : Env) : Room k (A.deeper env) :=
  ⟨r.hd, by have := r.dp; show A.depth + 1 + 3 * k + 5 < _; omega, by have := r.un; show A.units + 3 + 16 * k + 200 < _; omega⟩
theorem make_depth {A : Around} {C : Addr} {us : List Value} {kw : List (Str × Value)} : (A.under (.builtin "type.__call__" ⟨.ref C :: us, kw⟩)).depth = A.depth + 1 := by
  first | rfl | simp [Around.under, Code.weight, Code.isCreation, Code.isGuard, Code.isCaller, Code.frames, Code.isFrame, guardIds]
theorem make_units {A : Around} {C : Addr} {us : List Value} {kw : List (Str × Value)} : (A.under (.builtin "type.__call__" ⟨.ref C :: us, kw⟩)).units = A.units + 1 := by
  first | rfl | simp [Around.under, Code.cUnits, Code.frames, Code.isFrame]
theorem Room.make {k : Nat} {A : Around} (r : Room (k + 1) A) (C : Addr) (us : List Value) (kw : List (Str × Value)) : Room k (A.under (.builtin "type.__call__" ⟨.ref C :: us, kw⟩)) :=
  ⟨r.hd, by have := r.dp; rw [make_depth]; omega, by have := r.un; rw [make_units]; omega⟩
theorem Room.depth {k : Nat} {A : Around} (r : Room k A) : A.depth < recursionLimit := by have := r.dp; omega
theorem Room.units {k : Nat} {A : Around} (r : Room k A) : A.units + 64 < cLine := by have := r.un; omega
noncomputable def tNil : TA := fun _ H Q => Q [] H
noncomputable def tCons (ta : TE) (tr : TA) : TA := fun σ H Q => ta σ H fun x H1 => tr σ H1 fun xs H2 => Q (x :: xs) H2
section
variable {X : Cx} {e : Expr} {es : List Expr} {te : TE} {t : TA} {pos : Pos}
theorem pa_nil : PA X [] tNil := fun _ _ _ _ H Q I h => Calls.spliced_nil ⟨[], H, I, .nil, h⟩
theorem pa_cons (ha : PE X e te) (hr : PA X es t) (hs : starEach (e :: es) X.env = (false, eval e X.env) :: starEach es X.env := by rfl) : PA X (e :: es) (tCons te t) := by
  intro pos pins s σ H Q I h
  rw [hs]
  show wpAny _ _ (spliced ((false, eval e X.env) :: backTo pos (starEach es X.env))) _ _ s
  refine Calls.spliced_cons (thn (ha pins s σ H _ I h) fun u s1 ⟨x, H1, I1, r1, q1⟩ => ?_)
  exact thn (hr pos pins s1 σ H1 _ I1 q1) fun us s2 ⟨xs, H2, I2, r2, q2⟩ => ⟨x :: xs, H2, I2, .cons r1 r2, q2⟩

noncomputable def tTup (t : TA) : TE := fun σ H Q => t σ H fun xs H1 => xs.length ≤ sizeLine ∧ ∀ p, H1 p = none → Q (.ref p) (upd H1 p (.tup xs))
noncomputable def tLst (t : TA) : TE := fun σ H Q => t σ H fun xs H1 => xs.length ≤ sizeLine ∧ ∀ p, H1 p = none → Q (.ref p) (upd H1 p (.lst xs))
theorem pe_tup {x1} (h : PA X es t) : PE X (.Tuple es x1 pos) (tTup t) := by
  intro pins s σ H Q I hq
  refine wpAny_Tuple_spliced (thn (h pos pins s σ H _ I hq) fun us s1 ⟨xs, H1, I1, r, z, q⟩ => ⟨by rw [← r.length]; exact z, ?_⟩)
  have hf : H1 s1.heap.objs.size = none := I1.hok.fresh (Nat.le_refl _)
  refine ⟨.ref s1.heap.objs.size, upd H1 s1.heap.objs.size (.tup xs), I1.laid (t' := s1.toks) (fun b u e => Heap.get?_push_of_some _ e) (Nat.le_refl _) ?_, rfl, q _ hf⟩
  exact ⟨z, us, r, ⟨_, Heap.get?_push_size _ rfl, rfl, _, rfl⟩⟩
theorem pe_lst (h : PA X es t) : PE X (.List es pos) (tLst t) := by
  intro pins s σ H Q I hq
  refine wpAny_List_spliced (thn (h pos pins s σ H _ I hq) fun us s1 ⟨xs, H1, I1, r, z, q⟩ => ⟨by rw [← r.length]; exact z, ?_⟩)
  have hf : H1 s1.heap.objs.size = none := I1.hok.fresh (Nat.le_refl _)
  refine ⟨.ref s1.heap.objs.size, upd H1 s1.heap.objs.size (.lst xs), I1.laid (t' := s1.toks) (fun b u e => Heap.get?_push_of_some _ e) (Nat.le_refl _) ?_, rfl, q _ hf⟩
  exact ⟨z, us, 0, r, Heap.get?_push_size _ rfl⟩
end

noncomputable abbrev Sp := List V → Hp → VK → XK → Prop
noncomputable abbrev CXT := List Env → Hp → Shared → XK → Value → Shared → Prop

structure Env0 (P : Program) (w : World) (K : PySem.W.Frag) (mg : Str → Option Value) (base : Heap) (A : Around) (outer : List Env) (s : Shared) (H : Hp) : Prop where
  frames : A.frames = some outer
  mod : Mod K mg base
  bs : ∀ b o, base.get? b = some o → s.heap.get? b = some o ∧ H b = none
  bsz : base.objs.size ≤ s.heap.objs.size
  funs : s.heap.FunFrames base outer
  frf : ∀ b ∈ frs outer, H b = none
  hok : HOk P w H s.heap
  bare : AllBare s.gens
noncomputable def CE (outer : List Env) (P : Program) (w : World) (H : Hp) (s : Shared) (Q : VK) (u : Value) (s' : Shared) : Prop :=
  ∃ v H', s'.os = s.os ∧ AllBare s'.gens ∧ Un (frs outer) [] H H' s.heap s'.heap ∧ HOk P w H' s'.heap ∧ RelV v u ∧ Q v H'
noncomputable def CR (CX : CXT) (outer : List Env) (P : Program) (w : World) (H : Hp) (s : Shared) (Q : VK) (E : XK) (r : Result) (s' : Shared) : Prop :=
  match r with
  | .ok (.ret u) => CE outer P w H s Q u s'
  | .ok _ => False
  | .error e => CX outer H s E e s'
structure FnOk (P : Program) (w : World) (K : PySem.W.Frag) (mg : Str → Option Value) (base : Heap) (CX : CXT) (k : Nat) (f : Addr) (fd : FuncData) (ps : List Str) (sp : Sp) : Prop where
  len : ∀ vs H Q E, sp vs H Q E → vs.length = ps.length
  run : ∀ (A : Around) (outer : List Env) (s : Shared) (H : Hp) (args : Args) (us : List Value) (vs : List V) (Q : VK) (E : XK), Room k A → Env0 P w K mg base A outer s H → BindsTo s fd args (ps.zip us) → Vals vs us → sp vs H Q E →
    codeAny (model P w) A (.call (.ref f) args) (CR CX outer P w H s Q E) s
theorem FnOk.mono {P : Program} {w : World} {K : PySem.W.Frag} {mg : Str → Option Value} {base : Heap} {CX : CXT} {j k : Nat} {f : Addr} {fd : FuncData} {ps : List Str} {sp : Sp} (F : FnOk P w K mg base CX j f fd ps sp) (h : j ≤ k) :
    FnOk P w K mg base CX k f fd ps sp := ⟨F.len, fun A outer s H args us vs Q E hr => F.run A outer s H args us vs Q E (hr.mono h)⟩
theorem FnOk.imp {P : Program} {w : World} {K : PySem.W.Frag} {mg : Str → Option Value} {base : Heap} {CX : CXT} {k : Nat} {f : Addr} {fd : FuncData} {ps : List Str} {sp sp' : Sp} (F : FnOk P w K mg base CX k f fd ps sp)
    (h : ∀ vs H Q E, sp' vs H Q E → sp vs H Q E) : FnOk P w K mg base CX k f fd ps sp' :=
  ⟨fun vs H Q E q => F.len vs H Q E (h _ _ _ _ q), fun A outer s H args us vs Q E hr he hb hv hs => F.run A outer s H args us vs Q E hr he hb hv (h _ _ _ _ hs)⟩

theorem Env0.make {P : Program} {w : World} {K : PySem.W.Frag} {mg : Str → Option Value} {base : Heap} {A : Around} {outer : List Env} {s : Shared} {H : Hp} (e : Env0 P w K mg base A outer s H) (C : Addr) (us : List Value) (kw : List (Str × Value)) :
    Env0 P w K mg base (A.under (.builtin "type.__call__" ⟨.ref C :: us, kw⟩)) outer s H := ⟨by first | exact e.frames | (simpa [Around.under, Code.envs, Code.isFrame, pushEnvs] using e.frames), e.mod, e.bs, e.bsz, e.funs, e.frf, e.hok, e.bare⟩
section
variable {X : Cx} {pins : List (Addr × Obj)} {σ : St} {H : Hp} {s s' : Shared}
theorem Inv.env0 (I : Inv X pins σ H s) : Env0 X.prog X.w X.K X.mg X.base X.A X.stack s H :=
  ⟨I.ok.frames, I.ok.mod, I.bs, Nat.le_trans I.ok.bsz I.sz, I.stack, I.stkFree, I.hok, I.bare⟩
theorem Inv.after {Q : VK} {u : Value} (I : Inv X pins σ H s) (h : CE X.stack X.prog X.w H s Q u s') : EP X pins σ Q u s' := by
  obtain ⟨v, H', os, bare, un, hok, r, q⟩ := h
  obtain ⟨hh, g, d, t, os'⟩ := s'
  obtain rfl : os' = s.os := os
  exact ⟨v, H', I.call (h' := hh) (g' := g) (d' := d) (t' := t) (ch := []) un hok bare (fun b z => absurd z (by simp)), r, q⟩
end

noncomputable def tCall (sp : Sp) (dvs : List V) (E : XK) (t : TA) : TE := fun σ H Q => t σ H fun vs H1 => sp (vs ++ dvs) H1 Q E
noncomputable def tMeth (C : Addr) (m : Str) (sp : Sp) (dvs : List V) (E : XK) (ta : TE) (t : TA) : TE := fun σ H Q => ta σ H fun x H1 => ∃ a dx fs, x = .ref a ∧ H1 a = some (.ins C dx fs) ∧ fs.lookup m = none ∧
  t σ H1 fun vs H2 => sp (x :: (vs ++ dvs)) H2 Q E
noncomputable def tMake (C : Addr) (sp : Sp) (dvs : List V) (E : XK) (t : TA) : TE := fun σ H Q => t σ H fun vs H1 => ∀ x dx, H1 x = none → H1 dx = none → dx ≠ x →
  sp (.ref x :: (vs ++ dvs)) (upd (upd H1 dx (.own x)) x (.ins C dx [])) (fun v H2 => v = .non ∧ Q (.ref x) H2) E

noncomputable def Binds (K : PySem.W.Frag) (fd : FuncData) (ps : List Str) (ds : List Value) : Prop :=
  ∀ (s : Shared) (us : List Value), K.In s.heap → (us ++ ds).length = ps.length → BindsTo s fd ⟨us, []⟩ (ps.zip (us ++ ds))
theorem Binds.all {K : PySem.W.Frag} {fd : FuncData} {ps : List Str} (h : ∀ us : List Value, us.length = ps.length → bindArgs fd ⟨us, []⟩ = pure (ps.zip us)) : Binds K fd ps [] := fun s us _ hl => by
  rw [List.append_nil] at hl ⊢
  exact .of_eq (h us hl)

noncomputable def Passes (CX : CXT) (X : Cx) (E : XK) : Prop := ∀ (pins : List (Addr × Obj)) (σ : St) (H : Hp) (s : Shared) (e : Value) (s' : Shared), Inv X pins σ H s → CX X.stack H s E e s' → X.xe e s'

section
variable {X : Cx} {CX : CXT} {k : Nat} {f C : Addr} {fd : FuncData} {ps : List Str} {sp : Sp} {dvs : List V} {ds : List Value} {E : XK} {x m : Str} {p pos apos : Pos} {e o : Expr} {es : List Expr} {ta : TE} {t : TA}

theorem run_fn {pins : List (Addr × Obj)} {σ : St} {H : Hp} {s : Shared} {Q : VK} {us : List Value} {vs : List V} (F : FnOk X.prog X.w X.K X.mg X.base CX k f fd ps sp) (hr : Room k X.A) (hb : Binds X.K fd ps ds) (hd : Vals dvs ds) (hx : Passes CX X E)
    (I : Inv X pins σ H s) (r : Vals vs us) (h : sp (vs ++ dvs) H Q E) : wpAny (model X.prog X.w) X.A (call (.ref f) us) (EP X pins σ Q) X.xe s := by
  have r2 : Vals (vs ++ dvs) (us ++ ds) := r.append hd
  have hl : (us ++ ds).length = ps.length := by rw [← r2.length]; exact F.len _ _ _ _ h
  refine wpAny_call (codeAny_mono (F.run X.A X.stack s H ⟨us, []⟩ (us ++ ds) (vs ++ dvs) Q E hr I.env0 (hb s us I.kIn hl) r2 h) fun r s' hq => ?_)
  cases r with
  | error e => exact hx pins σ H s e s' I hq
  | ok fl =>
    cases fl with
    | ret u => exact I.after hq
    | next => exact False.elim hq
    | brk => exact False.elim hq
    | cont => exact False.elim hq

theorem pe_call (F : FnOk X.prog X.w X.K X.mg X.base CX k f fd ps sp) (hr : Room k X.A) (hg : Gl X x) (hm : X.mg x = some (.ref f)) (hk : PySem.W.keepIn X.K (.ref f) = true) (hb : Binds X.K fd ps ds) (hd : Vals dvs ds) (hx : Passes CX X E)
    (ha : PA X (e :: es) t) (hdb : (x == ("__debug__" : Str)) = false := by decide) (he : starEach (e :: es) X.env = (false, eval e X.env) :: starEach es X.env := by rfl) (hpl : (backTo pos (starEach es X.env)).any (·.1) = false := by rfl) :
    PE X (.Call (.Name x p) (e :: es) [] pos) (tCall sp dvs E t) := by
  intro pins s σ H Q I h
  refine wpAny_Call_Name_kw (ld_glob I hg hm ?_ hdb)
  refine PySem.W.callWith_K (h₀ := X.base) I.ok.mod.kin hk (thn (ha pos pins s σ H _ I h) fun us s1 ⟨vs, H1, I1, r, q⟩ => ⟨I1.kIn, ?_⟩) he hpl
  exact run_fn F hr hb hd hx I1 r q
theorem pe_meth {pl : Sem Bool} (he : PE X o ta) (c : Cls X.K C) (hm : Meth X.K C m f) (F : FnOk X.prog X.w X.K X.mg X.base CX k f fd ps sp) (hr : Room k X.A) (hb : Binds X.K fd ps ds) (hd : Vals dvs ds) (hx : Passes CX X E) (ha : PA X (e :: es) t)
    (hst : starEach (e :: es) X.env = (false, eval e X.env) :: starEach es X.env := by rfl) (hpl : (backTo pos (starEach es X.env)).any (·.1) = false := by rfl)
    (ht : eval (.Call (.Attribute o m apos) (e :: es) [] pos) X.env = (do
      let ov ← eval o X.env
      standAt apos.atName
      let (f, first) ← holding [ov] (getMethod ov m pl)
      callWith pos f first (backTo pos (starEach (e :: es) X.env)) (backToKw pos (keywordEach [] X.env))) := by rfl) :
    PE X (.Call (.Attribute o m apos) (e :: es) [] pos) (tMeth C m sp dvs E ta t) := by
  intro pins s σ H Q I h
  refine PySem.W.methodCall_KW (pl := pl) (thn (he pins s σ H _ I h) fun u s1 ⟨x, H1, I1, rx, a, dx, fs, ex, ea, l, q⟩ => ?_) ht
  subst ex
  obtain rfl : u = Value.ref a := rx
  refine getmeth_ok I1 ea c hm l ?_
  refine PySem.W.callWith_K (first := [.ref a]) (h₀ := X.base) I.ok.mod.kin hm.kp (thn (ha pos pins s1 σ H1 _ I1 q) fun us s2 ⟨vs, H2, I2, r, q2⟩ => ⟨I2.kIn, ?_⟩) hst hpl
  exact run_fn (us := .ref a :: us) (vs := .ref a :: vs) F hr hb hd hx I2 (.cons rfl r) q2
theorem pe_meth0 {pl : Sem Bool} (he : PE X o ta) (c : Cls X.K C) (hm : Meth X.K C m f) (F : FnOk X.prog X.w X.K X.mg X.base CX k f fd ps sp) (hr : Room k X.A) (hb : Binds X.K fd ps ds) (hd : Vals dvs ds) (hx : Passes CX X E)
    (ht : eval (.Call (.Attribute o m apos) [] [] pos) X.env = (do
      let ov ← eval o X.env
      standAt apos.atName
      let (f, first) ← holding [ov] (getMethod ov m pl)
      callWith pos f first (backTo pos (starEach [] X.env)) (backToKw pos (keywordEach [] X.env))) := by rfl) :
    PE X (.Call (.Attribute o m apos) [] [] pos) (tMeth C m sp dvs E ta tNil) := by
  intro pins s σ H Q I h
  refine PySem.W.methodCall_KW (pl := pl) (thn (he pins s σ H _ I h) fun u s1 ⟨x, H1, I1, rx, a, dx, fs, ex, ea, l, q⟩ => ?_) ht
  subst ex
  obtain rfl : u = Value.ref a := rx
  refine getmeth_ok I1 ea c hm l ?_
  exact PySem.W.callWith_K0 (first := [.ref a]) I1.kIn hm.kp (run_fn (us := [.ref a]) (vs := [.ref a]) F hr hb hd hx I1 (.cons rfl .nil) q)

structure Mk (K : PySem.W.Frag) (C f : Addr) : Prop where
  makes : PySem.W.makesIn K C = true
  init : PySem.W.findIn K (.ref C) "__init__" = some (some (.ref f))
  fn : PySem.W.isFn K (.ref f) = true
  kp : PySem.W.keepIn K (.ref C) = true

theorem run_make {pins : List (Addr × Obj)} {σ : St} {H : Hp} {s : Shared} {Q : VK} {us : List Value} {vs : List V} (M : Mk X.K C f) (F : FnOk X.prog X.w X.K X.mg X.base CX k f fd ps sp) (hr : Room (k + 1) X.A) (hb : Binds X.K fd ps ds) (hd : Vals dvs ds)
    (hx : Passes CX X E) (I : Inv X pins σ H s) (r : Vals vs us)
    (h : ∀ x dx, H x = none → H dx = none → dx ≠ x → sp (.ref x :: (vs ++ dvs)) (upd (upd H dx (.own x)) x (.ins C dx [])) (fun v H2 => v = .non ∧ Q (.ref x) H2) E) :
    wpAny (model X.prog X.w) X.A (call (.ref C) us) (EP X pins σ Q) X.xe s := by
  have hq := h (s.heap.objs.size + 1) s.heap.objs.size (I.hok.fresh (Nat.le_succ _)) (I.hok.fresh (Nat.le_refl _)) (Nat.ne_of_lt (Nat.lt_succ_self _))
  have I2 := Inv.made (C := C) I
  have r2 : Vals (V.ref (s.heap.objs.size + 1) :: (vs ++ dvs)) (Value.ref (s.heap.objs.size + 1) :: (us ++ ds)) := .cons rfl (r.append hd)
  have hl : (Value.ref (s.heap.objs.size + 1) :: us ++ ds).length = ps.length := by
    have e := r2.length
    rw [F.len _ _ _ _ hq] at e
    exact e.symm
  refine wpAny_call (make_map (f := f) I.kIn M.makes M.init (beq_iff_eq.mp M.fn) (codeAny_mono (F.run _ X.stack _ _ ⟨Value.ref (s.heap.objs.size + 1) :: us, []⟩ (Value.ref (s.heap.objs.size + 1) :: (us ++ ds)) _ _ E (hr.make C us [])
    (I2.env0.make C us []) (hb _ (Value.ref (s.heap.objs.size + 1) :: us) I2.kIn hl) r2 hq) fun r s' hq' => ?_))
  cases r with
  | error e => exact hx pins σ _ _ e s' I2 hq'
  | ok fl =>
    cases fl with
    | ret u =>
      obtain ⟨v, H', I3, rv, ev, q3⟩ := I2.after hq'
      subst ev
      exact ⟨rv, ⟨V.ref (s.heap.objs.size + 1), H', I3, rfl, q3⟩⟩
    | next => exact False.elim hq'
    | brk => exact False.elim hq'
    | cont => exact False.elim hq'
theorem pe_make0 (M : Mk X.K C f) (F : FnOk X.prog X.w X.K X.mg X.base CX k f fd ps sp) (hr : Room (k + 1) X.A) (hg : Gl X x) (hm : X.mg x = some (.ref C)) (hb : Binds X.K fd ps ds) (hd : Vals dvs ds) (hx : Passes CX X E)
    (hdb : (x == ("__debug__" : Str)) = false := by decide) : PE X (.Call (.Name x p) [] [] pos) (tMake C sp dvs E tNil) := by
  intro pins s σ H Q I h
  refine wpAny_Call_Name_kw (ld_glob I hg hm ?_ hdb)
  exact PySem.W.callWith_K0 I.kIn M.kp (run_make (us := []) M F hr hb hd hx I .nil h)
end

section
variable {X : Cx} {CX : CXT} {k : Nat} {f C : Addr} {fd : FuncData} {ps ks : List Str} {sp : Sp} {E : XK} {x m : Str} {p pos apos kpos : Pos} {e o : Expr} {es : List Expr} {kws : List Keyword} {te ta : TE} {t tk : TA} {nm : Option Str}
variable {g : List Value → List Value → List Value} {gV : List V → List V → List V}
end

structure FnScope (N P : List Str) (sc : Scope) : Prop where
  kind : sc.kind = .function
  co : sc.isCoroutine = false
  gen : sc.isGenerator = false
  nd : N.Nodup
  pre : N.take P.length = P
  par : ∀ x ∈ P, sc.names.lookup x = some .local ∨ sc.names.lookup x = some .cell
  nofree : ∀ y ∈ sc.names, y.2 ≠ .free

theorem bindL_out {kindOf : Str → Option NameKind} {x : Str} : ∀ {binds : List (Str × Value)} {m : Str → Option Value}, (∀ v, (x, v) ∉ binds) → bindL kindOf binds m x = m x
  | [], _, _ => rfl
  | (n, v) :: r, m, h => by
    unfold bindL
    rw [bindL_out fun w hw => h w (List.mem_cons_of_mem _ hw)]
    split
    · have : x ≠ n := by rintro rfl; exact h v List.mem_cons_self
      simp [this]
    · rfl
theorem bindC_out {kindOf : Str → Option NameKind} {x : Str} : ∀ {binds : List (Str × Value)} {m : Str → Option Value}, (∀ v, (x, v) ∉ binds) → bindC kindOf binds m x = m x
  | [], _, _ => rfl
  | (n, v) :: r, m, h => by
    unfold bindC
    rw [bindC_out fun w hw => h w (List.mem_cons_of_mem _ hw)]
    split
    · rfl
    · have : x ≠ n := by rintro rfl; exact h v List.mem_cons_self
      simp [this]
theorem bindL_get {kindOf : Str → Option NameKind} {x : Str} {v : Value} : ∀ {P : List Str} {vs : List Value} {i : Nat} {m : Str → Option Value}, P.Nodup → P[i]? = some x → vs[i]? = some v → kindOf x = some .local →
    bindL kindOf (P.zip vs) m x = some v
  | [], _, _, _, _, h, _, _ => by simp at h
  | _ :: _, [], _, _, _, _, h, _ => by simp at h
  | p :: P, w :: vs, 0, m, nd, h1, h2, hk => by
    simp at h1 h2; subst h1; subst h2
    show bindL kindOf ((p, w) :: P.zip vs) m p = _
    unfold bindL
    rw [bindL_out fun v hv => (List.nodup_cons.mp nd).1 (List.of_mem_zip hv).1, if_pos hk]
    simp
  | p :: P, w :: vs, i + 1, m, nd, h1, h2, hk => by
    show bindL kindOf ((p, w) :: P.zip vs) m x = _
    unfold bindL
    exact bindL_get (i := i) (List.nodup_cons.mp nd).2 (by simpa using h1) (by simpa using h2) hk
theorem bindC_get {kindOf : Str → Option NameKind} {x : Str} {v : Value} : ∀ {P : List Str} {vs : List Value} {i : Nat} {m : Str → Option Value}, P.Nodup → P[i]? = some x → vs[i]? = some v → kindOf x ≠ some .local →
    bindC kindOf (P.zip vs) m x = some v
  | [], _, _, _, _, h, _, _ => by simp at h
  | _ :: _, [], _, _, _, _, h, _ => by simp at h
  | p :: P, w :: vs, 0, m, nd, h1, h2, hk => by
    simp at h1 h2; subst h1; subst h2
    show bindC kindOf ((p, w) :: P.zip vs) m p = _
    unfold bindC
    rw [bindC_out fun v hv => (List.nodup_cons.mp nd).1 (List.of_mem_zip hv).1, if_neg hk]
    simp
  | p :: P, w :: vs, i + 1, m, nd, h1, h2, hk => by
    show bindC kindOf ((p, w) :: P.zip vs) m x = _
    unfold bindC
    exact bindC_get (i := i) (List.nodup_cons.mp nd).2 (by simpa using h1) (by simpa using h2) hk

noncomputable def start (N : List Str) (vs : List V) : St := vs.map some ++ List.replicate (N.length - vs.length) none

noncomputable def cxOf (CX : CXT) (P : Program) (w : World) (K : PySem.W.Frag) (mg : Str → Option Value) (base : Heap) (N : List Str) (qual : Str) (scope : Scope) (f : Addr) (cd : Value) (A : Around) (outer : List Env) (s : Shared) (H : Hp) (E : XK) : Cx where
  prog := P
  w := w
  K := K
  mg := mg
  base := base
  A := A.deeper (envOfC qual scope s.heap.objs.size f cd)
  N := N
  s₀ := s
  H₀ := H
  env := envOfC qual scope s.heap.objs.size f cd
  outer := outer
  stack := envOfC qual scope s.heap.objs.size f cd :: outer
  ex := []
  calm := true
  fn := fun _ => true
  pn := []
  xe := fun e s' => wpAny (model P w) (A.deeper (envOfC qual scope s.heap.objs.size f cd)) (leaving (envOfC qual scope s.heap.objs.size f cd) e) (fun _ s'' => CX outer H s E e s'') (fun e' s'' => CX outer H s E e' s'') s'

theorem cell_has {sc : Scope} {n : Nat} {x : Str} (h : sc.names.lookup x = some .cell) : ∃ c, (cellsFrom n sc.names []).lookup x = some c := by
  have q := PySem.W.cellsFrom_some sc.names n [] (.inl h)
  exact Option.isSome_iff_exists.mp q

theorem inv_start {CX : CXT} {P : Program} {w : World} {K : PySem.W.Frag} {mg : Str → Option Value} {base : Heap} {N ps : List Str} {qual : Str} {scope : Scope} {f : Addr} {cd : Value} {A : Around} {outer : List Env} {s s1 : Shared} {H : Hp} {E : XK} {us : List Value} {vs : List V}
    (S : FnScope N ps scope) (hd : A.handled = none) (e0 : Env0 P w K mg base A outer s H) (hl : vs.length = ps.length) (r : Vals vs us)
    (x : InCallC s s.heap.objs.size (bindL (envOfC qual scope s.heap.objs.size f cd).kindOf (ps.zip us) fun _ => none) (cellsFrom (s.heap.objs.size + 1) scope.names []) (bindC (envOfC qual scope s.heap.objs.size f cd).kindOf (ps.zip us) fun _ => none) s1) :
    Inv (cxOf CX P w K mg base N qual scope f cd A outer s H E) [] (start N vs) H s1 := by
  have hpl : ps.length ≤ N.length := by have := congrArg List.length S.pre; rw [List.length_take] at this; omega
  obtain ⟨h1, tk, rfl, hk⟩ := x.done
  have noA : ∀ b : Addr, b ∉ (cxOf CX P w K mg base N qual scope f cd A outer s H E).ex := fun b z => absurd (show b ∈ ([] : List Addr) from z) (by simp)
  refine ⟨⟨e0.mod, S.kind, rfl, rfl, Nat.le_refl _, fun y z c h1 h2 => ?_, fun y hy => ?_, fun y c _ h => ?_, fun _ => hd, Around.frames_deeper e0.frames, .inr ⟨rfl, rfl⟩, fun b z => absurd z (noA b), e0.bs, e0.bsz, fun b _ _ => noA b, fun b z => absurd z (noA b), e0.funs, e0.frf⟩,
    rfl, e0.bare, Un.kept hk, ⟨_, x.toInCall.ns, fun i y v h1 h2 h3 => ?_⟩, fun y c h => ⟨_, x.cell y c h⟩, e0.hok.fresh (Nat.le_refl _), fun y c h => ?_, fun p hp => absurd (show p ∈ ([] : List (Addr × Obj)) from hp) (by simp), e0.hok.kept hk, ?_⟩
  · exact name_of_addr x.apart (PySem.mem_of_lookup h1) (PySem.mem_of_lookup h2)
  · have hy : scope.names.lookup y = some .cell ∨ scope.names.lookup y = some .free := hy
    rcases hy with hy | hy
    · exact cell_has hy
    · exact absurd rfl (S.nofree _ (PySem.mem_of_lookup hy))
  · exact Nat.le_of_lt (x.above y c (PySem.mem_of_lookup h))
  · have hi : i < vs.length := by
      unfold start at h2
      by_cases hi : i < vs.length
      · exact hi
      · rw [List.getElem?_append_right (by simpa using hi)] at h2
        rw [List.getElem?_replicate] at h2
        split at h2 <;> cases h2
    have ha : vs[i]? = some v := by
      unfold start at h2
      rw [List.getElem?_append_left (by simpa using hi), List.getElem?_map] at h2
      cases e : vs[i]? with
      | none => rw [e] at h2; cases h2
      | some a => rw [e] at h2; cases h2; rfl
    obtain ⟨u, hu, rv⟩ := r.get ha
    have hp : ps[i]? = some y := by
      rw [← S.pre, List.getElem?_take_of_lt (by omega)]; exact h1
    have ndP : ps.Nodup := by rw [← S.pre]; exact S.nd.sublist (List.take_sublist _ _)
    refine ⟨u, rv, ?_⟩
    rcases S.par y (List.mem_of_getElem? hp) with k | k
    · exact .inl ⟨k, bindL_get ndP hp hu k⟩
    · obtain ⟨c, e⟩ := cell_has (n := s.heap.objs.size + 1) k
      refine .inr ⟨.inl k, c, e, ?_⟩
      have q := x.cell y c e
      rw [bindC_get ndP hp hu (by show scope.names.lookup y ≠ _; rw [k]; decide)] at q
      exact q
  · exact e0.hok.fresh (Nat.le_of_lt (x.above y c (PySem.mem_of_lookup h)))
  · unfold start
    show _ = N.length
    rw [List.length_append, List.length_map, List.length_replicate]
    omega

theorem fn_of {CX : CXT} {P : Program} {w : World} {K : PySem.W.Frag} {mg : Str → Option Value} {base : Heap} {k : Nat} {f : Addr} {name qual : Str} {params : Arguments} {body : List Stmt} {scope : Scope} {dV kV doc pm cdv ct oc : Value} {an od : Option Addr}
    {osl : Array (Option Value)} {N ps : List Str} {sp : Sp} (lk : K.lookup f = some ⟨oc, od, .func (PySem.W.fnOf name qual params body scope dV kV doc pm an cdv ct), osl⟩) (hcd : PySem.W.codeIn K cdv qual = true) (S : FnScope N ps scope)
    (len : ∀ vs H Q E, sp vs H Q E → vs.length = ps.length)
    (hbody : ∀ (A : Around) (outer : List Env) (s : Shared) (H : Hp) (vs : List V) (Q : VK) (E : XK), Room k (A.deeper (envOfC qual scope s.heap.objs.size f cdv)) → sp vs H Q E →
      ∃ t, PSs (cxOf CX P w K mg base N qual scope f cdv A outer s H E) body t ∧ t { nx := fun _ H' => Q .non H', rt := Q } (start N vs) H) :
    FnOk P w K mg base CX (k + 1) f (PySem.W.fnOf name qual params body scope dV kV doc pm an cdv ct) ps sp := by
  refine ⟨len, fun A outer s H args us vs Q E hr e0 hb r hsp => ?_⟩
  have hl := len _ _ _ _ hsp
  have KX : K.In s.heap := e0.mod.kin.keeps fun b o e => (e0.bs b o e).1
  have lim : s.heap.NoLimit := e0.mod.nolimit.keeps fun b o e => (e0.bs b o e).1
  have hkind : ∀ y ∈ ps.zip us, scope.names.lookup y.1 = some .local ∨ (scope.names.lookup y.1 = some .cell ∧ ((cellsFrom (s.heap.objs.size + 1) scope.names []).lookup y.1).isSome = true) := fun ⟨n, v⟩ hy => by
    rcases S.par n (List.of_mem_zip hy).1 with q | q
    · exact .inl q
    · exact .inr ⟨q, PySem.W.cellsFrom_some _ _ _ (.inl q)⟩
  refine codeAny_call_function hr.depth (KX _ _ lk) rfl S.co S.gen rfl (PySem.W.codeRec_of KX hcd) (hb _ _ _ _ ?_)
  refine wpAny_newFunctionEnv_cells S.kind hkind fun env he s1 x => ?_
  subst he
  refine ⟨lim.keeps x.toInCall.keep, codeAny_func ?_⟩
  obtain ⟨t, ht, hq⟩ := hbody A outer s H vs Q E (hr.deeper _) hsp
  have I : Inv (cxOf CX P w K mg base N qual scope f cdv A outer s H E) [] (start N vs) H s1 := inv_start S hr.hd e0 hl r x
  refine wpAny_mono (ht [] s1 (start N vs) H _ I hq) (fun fl s' hs => ?_) fun e s' hs => hs
  have fin : ∀ {σ' : St} {H' : Hp} {v : V} {u : Value}, Inv (cxOf CX P w K mg base N qual scope f cdv A outer s H E) [] σ' H' s' → RelV v u → Q v H' → CE outer P w H s Q u s' :=
    fun {σ' H' v u} J rv q => ⟨v, H', J.os, J.bare, J.base, J.hok, rv, q⟩
  cases fl with
  | ret u =>
    obtain ⟨v, σ', H', J, rv, q⟩ := hs
    exact fin J rv q
  | next =>
    obtain ⟨σ', H', J, q⟩ := hs
    exact fin (v := V.non) (u := Value.none) J rfl q
  | brk =>
    obtain ⟨_, _, _, q⟩ := hs
    exact False.elim q
  | cont =>
    obtain ⟨_, _, _, q⟩ := hs
    exact False.elim q
end L2

namespace L2
open PySem PySem.Spec PyProof.Rows
section
variable {X : Cx} {x : Str} {p pos : Pos} {e : Expr} {es : List Expr} {t : TA} {id T : String} {r : List V → Hp → VK → Prop}

noncomputable def tCB (r : List V → Hp → VK → Prop) (t : TA) : TE := fun σ H Q => t σ H fun vs H1 => r vs H1 Q
theorem pe_callB (hc : CallR X (.builtin id) r) (hg : Gl X x) (hm : X.mg x = none) (hv : bootBuiltins x = some (.builtin id)) (ha : PA X (e :: es) t) (hn : x ≠ "__name__" := by decide) (hdb : (x == ("__debug__" : Str)) = false := by decide)
    (he : starEach (e :: es) X.env = (false, eval e X.env) :: starEach es X.env := by rfl) (hpl : (backTo pos (starEach es X.env)).any (·.1) = false := by rfl) : PE X (.Call (.Name x p) (e :: es) [] pos) (tCB r t) := by
  intro pins s σ H Q I h
  refine wpAny_Call_Name_kw (ld_blt I hg hm hv ?_ hn hdb)
  exact PyProof.Rows.callWith_builtin1 (thn (ha pos pins s σ H _ I h) fun us s1 ⟨vs, H1, I1, r1, q1⟩ => hc pins s1 σ H1 vs us Q I1 r1 q1) he hpl
theorem pe_callTy (hc : CallR X (.type T) r) (hg : Gl X x) (hm : X.mg x = none) (hv : bootBuiltins x = some (.type T)) (ha : PA X (e :: es) t) (hn : x ≠ "__name__" := by decide) (hdb : (x == ("__debug__" : Str)) = false := by decide)
    (he : starEach (e :: es) X.env = (false, eval e X.env) :: starEach es X.env := by rfl) (hpl : (backTo pos (starEach es X.env)).any (·.1) = false := by rfl) : PE X (.Call (.Name x p) (e :: es) [] pos) (tCB r t) := by
  intro pins s σ H Q I h
  refine wpAny_Call_Name_kw (ld_blt I hg hm hv ?_ hn hdb)
  exact PyProof.Rows.callWith_type1 (thn (ha pos pins s σ H _ I h) fun us s1 ⟨vs, H1, I1, r1, q1⟩ => hc pins s1 σ H1 vs us Q I1 r1 q1) he hpl
end
end L2

namespace HT
open PySem PyProof.Rows

section
open PySem.SeqAt
open PySem.AutoSeq1 (wpAny_loadPart')
open PySem.MeetsSeq PySem.MeetsSeq2 PySem.MeetsSeq3

end

section
variable {prog : Program} {w : World} {A : Around} {E : Value → Shared → Prop} {s : Shared}

noncomputable def sIx (n d : Nat) : Option Int → Nat
  | none => d
  | some v => if v < 0 then (v + (n : Int)).toNat else min v.toNat n
theorem sIx_nat (n d k : Nat) : sIx n d (some (k : Int)) = min k n := by
  show (if (k : Int) < 0 then ((k : Int) + (n : Int)).toNat else min (k : Int).toNat n) = min k n
  rw [if_neg (by omega), Int.toNat_natCast]
end
end HT

namespace L2
open PySem PySem.Spec PyProof.Rows

noncomputable abbrev TO := St → Hp → (Option Int → Hp → Prop) → Prop
noncomputable def PO (X : Cx) (e : Option Expr) (t : TO) : Prop :=
  ∀ (pins : List (Addr × Obj)) (s : Shared) (σ : St) (H : Hp) (Q : Option Int → Hp → Prop), Inv X pins σ H s → t σ H Q →
    wpAny (model X.prog X.w) X.A (evalPart e X.env) (fun u s' => ∃ o H', Inv X pins σ H' s' ∧ IsPart u o ∧ Q o H') X.xe s
noncomputable def tNoPart : TO := fun _ H Q => Q none H
noncomputable def tPart (t : TE) : TO := fun σ H Q => t σ H fun x H1 => ∃ i, x = .int i ∧ Q (some i) H1

theorem intsAre_of {ns : List Int} : ∀ {us : List Value}, Vals (ns.map V.int) us → IntsAre us ns := by
  induction ns with
  | nil => intro us r; rw [List.map_nil] at r; cases r; exact .nil
  | cons n ns ih =>
    intro us r
    rw [List.map_cons] at r
    cases r with
    | cons r1 r2 =>
      obtain ⟨t, e⟩ := r1
      subst e
      exact .cons n t (ih r2)

section
variable {X : Cx} {e : Expr} {te : TE} {lo hi : Option Expr} {tl th : TO} {pos p2 : Pos}

theorem po_none : PO X none tNoPart := by
  intro pins s σ H Q I h
  rw [evalPart_none]
  exact wpAny_pure ⟨none, H, I, .none, h⟩
theorem po_some (h : PE X e te) : PO X (some e) (tPart te) := by
  intro pins s σ H Q I hw
  rw [evalPart_some]
  refine thn (h pins s σ H _ I hw) fun u s1 ⟨x, H1, I1, r1, q1⟩ => ?_
  obtain ⟨i, rfl, q⟩ := q1
  obtain ⟨t, rfl⟩ := r1
  exact ⟨some i, H1, I1, .int i t, q⟩

noncomputable def SlR (X : Cx) (r : V → Option Int → Option Int → Hp → VK → Prop) : Prop :=
  ∀ (pins : List (Addr × Obj)) (s : Shared) (σ : St) (H : Hp) (x : V) (v vl vu : Value) (lo hi : Option Int) (sl : Addr) (Q : VK), Inv X pins σ H s → RelV x v → s.heap.IsSliceOf sl vl vu .none → IsPart vl lo → IsPart vu hi → r x lo hi H Q →
    ∃ T id, typeLookup (.type T) "__getitem__" = pure (some (.builtin id)) ∧ s.TypeIs v T ∧ wpAny (model X.prog X.w) X.A (getItem v (.ref sl)) (EP X pins σ Q) X.xe s
theorem SlR.or {r r' : V → Option Int → Option Int → Hp → VK → Prop} (h : SlR X r) (h' : SlR X r') : SlR X (fun x lo hi H Q => r x lo hi H Q ∨ r' x lo hi H Q) := by
  intro pins s σ H x v vl vu lo hi sl Q I rx hs pl pu q
  rcases q with q | q
  · exact h pins s σ H x v vl vu lo hi sl Q I rx hs pl pu q
  · exact h' pins s σ H x v vl vu lo hi sl Q I rx hs pl pu q
noncomputable def tSl (r : V → Option Int → Option Int → Hp → VK → Prop) (te : TE) (tl th : TO) : TE := fun σ H Q => te σ H fun x H1 => tl σ H1 fun l H2 => th σ H2 fun u H3 => r x l u H3 Q
theorem pe_slice {r : V → Option Int → Option Int → Hp → VK → Prop} (hr : SlR X r) (he : PE X e te) (hl : PO X lo tl) (hu : PO X hi th) : PE X (.Subscript e (.Slice lo hi none p2) pos) (tSl r te tl th) := by
  intro pins s σ H Q I h
  refine Subscript_ (thn (he pins s σ H _ I h) fun v s1 ⟨x, H1, I1, r1, q1⟩ => ?_)
  refine wpAny_Slice (thn (hl pins s1 σ H1 _ I1 q1) fun vl s2 ⟨l, H2, I2, pl, q2⟩ => thn (hu pins s2 σ H2 _ I2 q2) fun vu s3 ⟨u, H3, I3, pu, q3⟩ => ?_)
  rw [evalPart_none]
  refine wpAny_pure ?_
  have I4 : Inv X pins σ H3 { s3 with heap := s3.heap.push { cls := .type "slice", data := .fields #[vl, vu, .none] } } := I3.kept (t' := s3.toks) fun b ob q => Heap.get?_push_of_some _ q
  obtain ⟨T, id, hT, ht, hg⟩ := hr pins { s3 with heap := s3.heap.push { cls := .type "slice", data := .fields #[vl, vu, .none] } } σ H3 x v vl vu l u s3.heap.objs.size Q I4 r1 (Heap.IsSliceOf.new ..) pl pu q3
  show wpAny (model X.prog X.w) X.A (subscriptTail e (.Slice lo hi none p2) v (.ref s3.heap.objs.size)) (EP X pins σ Q) X.xe { s3 with heap := s3.heap.push { cls := .type "slice", data := .fields #[vl, vu, .none] } }
  exact tail_any (ops := [.ref s3.heap.objs.size, v]) ht hT hg (by with_unfolding_all rfl)

noncomputable def cutV (xs : List V) (lo hi : Option Int) : List V := (xs.drop (HT.sIx xs.length 0 lo)).take (HT.sIx xs.length xs.length hi - HT.sIx xs.length 0 lo)
theorem cutV_length (xs : List V) (lo hi : Option Int) : (cutV xs lo hi).length ≤ xs.length := by
  unfold cutV
  rw [List.length_take, List.length_drop]
  omega
end
end L2

namespace L2
open PySem PySem.Spec PyProof.Rows

noncomputable def ixN (n : Nat) (i : Int) : Option Nat := if 0 ≤ i then (if i < n then some i.toNat else none) else if -(n : Int) ≤ i then some (i + n).toNat else none
noncomputable def atI {α : Type} (xs : List α) (i : Int) : Option α := (ixN xs.length i).bind fun j => xs[j]?
theorem ixN_seq {n : Nat} {i : Int} {j : Nat} (h : ixN n i = some j) : seqIndex? i n = some j ∧ j < n ∧ -(n : Int) ≤ i ∧ i < n := by
  unfold ixN at h
  by_cases h0 : 0 ≤ i
  · rw [if_pos h0] at h
    by_cases h1 : i < n
    · rw [if_pos h1] at h
      have e : i.toNat = j := Option.some.inj h
      exact ⟨by rw [seqIndex_of h0 h1, e], by omega, by omega, h1⟩
    · rw [if_neg h1] at h; cases h
  · rw [if_neg h0] at h
    by_cases h1 : -(n : Int) ≤ i
    · rw [if_pos h1] at h
      have e : (i + n).toNat = j := Option.some.inj h
      exact ⟨by rw [seqIndex_neg (by omega) h1, e], by omega, h1, by omega⟩
    · rw [if_neg h1] at h; cases h
theorem atI_get {α : Type} {xs : List α} {i : Int} {v : α} (h : atI xs i = some v) : ∃ j, seqIndex? i xs.length = some j ∧ xs[j]? = some v ∧ j < xs.length ∧ -(xs.length : Int) ≤ i ∧ i < xs.length := by
  unfold atI at h
  cases e : ixN xs.length i with
  | none => rw [e] at h; cases h
  | some j =>
    rw [e] at h
    obtain ⟨h1, h2, h3, h4⟩ := ixN_seq e
    exact ⟨j, h1, h, h2, h3, h4⟩
theorem atI_nat {α : Type} {xs : List α} {j : Nat} {v : α} (h : xs[j]? = some v) : atI xs (j : Int) = some v := by
  have hj : j < xs.length := (List.getElem?_eq_some_iff.mp h).1
  have e : ixN xs.length (j : Int) = some j := by
    unfold ixN
    rw [if_pos (by omega), if_pos (by omega)]; simp
  unfold atI; rw [e]; exact h
noncomputable def PlainIx (b : Expr) : Prop := ∀ o i, subscripted b false o i = operate [o, i] (getItem o i)
noncomputable def IxR (X : Cx) (r : R2) : Prop :=
  ∀ (value slice : Expr) (pins : List (Addr × Obj)) (s : Shared) (σ : St) (H : Hp) (x y : V) (v u : Value) (Q : VK), Inv X pins σ H s → RelV x v → RelV y u → r x y H Q →
    subscripted slice false v u = operate [v, u] (getItem v u) → wpAny (model X.prog X.w) X.A (subscriptTail value slice v u) (EP X pins σ Q) X.xe s
noncomputable def MtR (X : Cx) (id : String) (r : V → List V → Hp → VK → Prop) : Prop :=
  ∀ (pins : List (Addr × Obj)) (s : Shared) (σ : St) (H : Hp) (x : V) (xs : List V) (v : Value) (us : List Value) (Q : VK), Inv X pins σ H s → RelV x v → Vals xs us → r x xs H Q →
    wpAny (model X.prog X.w) X.A (call (.builtin id) (v :: us)) (EP X pins σ Q) X.xe s
section
variable {X : Cx} {a b : Expr} {ta tb : TE} {pos : Pos}
theorem IxR.or {r r' : R2} (h : IxR X r) (h' : IxR X r') : IxR X (fun x y H Q => r x y H Q ∨ r' x y H Q) := by
  intro value slice pins s σ H x y v u Q I rx ry q hs
  rcases q with q | q
  · exact h value slice pins s σ H x y v u Q I rx ry q hs
  · exact h' value slice pins s σ H x y v u Q I rx ry q hs
theorem MtR.or {id : String} {r r' : V → List V → Hp → VK → Prop} (h : MtR X id r) (h' : MtR X id r') : MtR X id (fun x xs H Q => r x xs H Q ∨ r' x xs H Q) := by
  intro pins s σ H x xs v us Q I rx rs q
  rcases q with q | q
  · exact h pins s σ H x xs v us Q I rx rs q
  · exact h' pins s σ H x xs v us Q I rx rs q
theorem pe_ix {r : R2} (hr : IxR X r) (ha : PE X a ta) (hb : PE X b tb) (hs : PlainIx b) : PE X (.Subscript a b pos) (tOp r ta tb) := by
  intro pins s σ H Q I h
  exact Subscript_ (binT ha hb I h fun v u s2 x y H2 I2 rx ry q => hr a b pins s2 σ H2 x y v u Q I2 rx ry q (hs _ _))

noncomputable def rIxL (K : PySem.W.Frag) : R2 := fun x y H Q => ∃ p xs i v, x = .ref p ∧ y = .int i ∧ SqL K H p xs ∧ atI xs i = some v ∧ Q v H
noncomputable def rIxS : R2 := fun x y H Q => ∃ z i c, x = .str z ∧ y = .int i ∧ z.length ≤ sizeLine ∧ atI z.cps.toList i = some c ∧ Q (.str ⟨#[c]⟩) H
theorem ix_list : IxR X (rIxL X.K) := by
  intro value slice pins s σ H x y v u Q I rx ry h hs
  obtain ⟨p, xs, i, z, rfl, rfl, hq, he, q⟩ := h
  cases rx
  obtain ⟨t, rfl⟩ := ry
  obtain ⟨its, r, pl, hz⟩ := I.list hq
  obtain ⟨j, h1, h2, h3, h4, h5⟩ := atI_get he
  obtain ⟨w, ew, rw'⟩ := r.get h2
  have hl := r.length
  have hn := line63
  have fin : EP X pins σ Q w s := ⟨z, H, I, rw', q⟩
  by_cases h0 : 0 ≤ i
  · have hj : i.toNat = j := by
      rw [seqIndex_of h0 h5] at h1
      exact Option.some.inj h1
    exact item_listR pl.isList h0 (by omega) (by rw [hj]; simpa using ew) fin hs
  · have hj : (i + (its.toArray.size : Int)).toNat = j := by
      rw [seqIndex_neg (by omega) h4] at h1
      rw [List.size_toArray, ← hl]
      exact Option.some.inj h1
    exact subscriptTail_builtinR (x := w) pl.isList.typeIs slot_list_getitem.lookup
      (wpAny_getItem_list_neg (Q := fun r s' => r = w ∧ EP X pins σ Q r s') pl.isList (by omega) (by rw [List.size_toArray] <;> omega) (by omega) (by rw [hj]; simpa using ew) ⟨rfl, fin⟩) hs
theorem ix_str : IxR X rIxS := by
  intro value slice pins s σ H x y v u Q I rx ry h hs
  obtain ⟨z, i, c, rfl, rfl, hz, he, q⟩ := h
  obtain ⟨t, rfl⟩ := rx
  obtain ⟨t', rfl⟩ := ry
  obtain ⟨j, h1, h2, h3, h4, h5⟩ := atI_get he
  have hl : z.cps.toList.length = z.length := by simp [Str.length]
  rw [hl] at h1 h4 h5
  have hn := line63
  exact tail_any (typeIs_str s z t) slot_str_getitem.lookup (getItem_str (c := c) (by
    have e1 : decide (i < -(2 ^ 63 : Int)) = false := decide_eq_false (by omega)
    have e2 : decide (i ≥ 2 ^ 63) = false := decide_eq_false (by omega)
    rw [e1, e2, Bool.or_false]) (by rw [h1]; simpa using h2) ⟨.str ⟨#[c]⟩, H, I.tok _, ⟨_, rfl⟩, q⟩) hs
theorem mapSeq_set (its : List Value) (n j : Nat) (u : Value) : Obj.mapSeq (·.setIfInBounds j u) { cls := .type "list", data := .seq its.toArray n } = { cls := .type "list", data := .seq (its.set j u).toArray n } := by
  simp [Obj.mapSeq]
theorem Inv.lst {pins : List (Addr × Obj)} {σ : St} {H : Hp} {s : Shared} {p : Addr} {xs : List V} (I : Inv X pins σ H s) (h : H p = some (.lst xs)) :
    ∃ (its : List Value) (n : Nat), Vals xs its ∧ s.heap.get? p = some { cls := .type "list", data := .seq its.toArray n } ∧ xs.length ≤ sizeLine := by
  obtain ⟨z, its, n, r, e⟩ := I.hok p _ h
  exact ⟨its, n, r, e, z⟩
theorem Inv.lstUpd {pins : List (Addr × Obj)} {σ : St} {H : Hp} {s : Shared} {p : Addr} {xs ys : List V} {its its' : List Value} {n n' : Nat} {f : Obj → Obj} (I : Inv X pins σ H s) (h : H p = some (.lst xs))
    (ho : s.heap.get? p = some { cls := .type "list", data := .seq its.toArray n }) (hf : f { cls := .type "list", data := .seq its.toArray n } = { cls := .type "list", data := .seq its'.toArray n' }) (r : Vals ys its') (hz : ys.length ≤ sizeLine) (t : Nat) :
    Inv X pins σ (upd H p (.lst ys)) { s with heap := s.heap.update p f, toks := t } := by
  have e : (s.heap.update p f).get? p = some { cls := .type "list", data := .seq its'.toArray n' } := by
    rw [Heap.get?_update_self f ho (by rw [hf] <;> rfl), hf]
  refine I.write (x := p) (e := p) (by rw [h]; trivial) (.inl rfl) (fun b u hb q => (Heap.get?_update_other _ _ (Ne.symm hb)).trans q) ⟨_, e⟩ ?_
  exact ⟨hz, its', n', r, e⟩
noncomputable def rSetL : V → V → V → Hp → (Hp → Prop) → Prop := fun o i v H Q => ∃ p xs k j, o = .ref p ∧ i = .int k ∧ H p = some (.lst xs) ∧ ixN xs.length k = some j ∧ Q (upd H p (.lst (xs.set j v)))
theorem set_list : PSet X rSetL := by
  intro pins s σ H o i v ov iv u Q I ro ri rv h
  obtain ⟨p, xs, k, j, rfl, rfl, hp, hj, q⟩ := h
  cases ro
  obtain ⟨t, rfl⟩ := ri
  obtain ⟨its, n, r, ho, hz⟩ := I.lst hp
  obtain ⟨h1, h2, h3, h4⟩ := ixN_seq hj
  have hl := r.length
  have hn := line63
  have I' : Inv X pins σ (upd H p (.lst (xs.set j v))) { s with heap := s.heap.update p (Obj.mapSeq (·.setIfInBounds j u)) } :=
    I.lstUpd hp ho (mapSeq_set its n j u) (r.set rv j) (by rw [List.length_set]; exact hz) s.toks
  by_cases h0 : 0 ≤ k
  · have hk : k.toNat = j := by
      rw [seqIndex_of h0 h4] at h1
      exact Option.some.inj h1
    exact PySem.W.ki_setAt ho h0 (by omega) (by rw [List.size_toArray, ← hl]; exact h4) (by rw [hk]; exact ⟨_, I', q⟩)
  · have hk : (k + (its.toArray.size : Int)).toNat = j := by
      rw [seqIndex_neg (by omega) h3] at h1
      rw [List.size_toArray, ← hl]
      exact Option.some.inj h1
    exact PySem.W.ki_setBack ho (by omega) (by rw [List.size_toArray, ← hl]; exact h3) (by omega) (by rw [hk]; exact ⟨_, I', q⟩)

theorem slice_bounds (lo hi : Option Int) (n : Nat) : (sliceBounds lo hi none n).1 = ((HT.sIx n 0 lo : Nat) : Int) ∧ (sliceBounds lo hi none n).2.1 = ((HT.sIx n n hi : Nat) : Int) ∧ (sliceBounds lo hi none n).2.2 = 1 := by
  refine ⟨?_, ?_, rfl⟩
  · cases lo with
    | none => simp [sliceBounds, HT.sIx]
    | some i =>
      simp only [sliceBounds, HT.sIx, Option.getD_none, show (1 : Int) > 0 by decide, if_true]
      by_cases h : i < 0
      · simp only [h, if_true] <;> omega
      · simp only [h, if_false] <;> omega
  · cases hi with
    | none => simp [sliceBounds, HT.sIx]
    | some i =>
      simp only [sliceBounds, HT.sIx, Option.getD_none, show (1 : Int) > 0 by decide, if_true]
      by_cases h : i < 0
      · simp only [h, if_true] <;> omega
      · simp only [h, if_false] <;> omega
theorem slicePick_cut (its : List Value) (lo hi : Option Int) : slicePick its.toArray lo hi none = ((its.drop (HT.sIx its.length 0 lo)).take (HT.sIx its.length its.length hi - HT.sIx its.length 0 lo)).toArray := by
  obtain ⟨h1, h2, h3⟩ := slice_bounds lo hi its.toArray.size
  unfold slicePick
  rw [h1, h2, h3]
  simp only [sliceRange_one, pick_run, List.size_toArray] <;> rfl
noncomputable def rSlL (K : PySem.W.Frag) : V → Option Int → Option Int → Hp → VK → Prop := fun x lo hi H Q => ∃ a xs, x = .ref a ∧ SqL K H a xs ∧ ∀ p, H p = none → Q (.ref p) (upd H p (.lst (cutV xs lo hi)))
theorem sl_list : SlR X (rSlL X.K) := by
  intro pins s σ H x v vl vu lo hi sl Q I rx hs pl pu h
  obtain ⟨a, xs, rfl, hx, q⟩ := h
  cases rx
  obtain ⟨its, r, ht, hz⟩ := I.list hx
  have hlen := r.length
  refine ⟨"list", _, slot_list_getitem.lookup, ht.isList.typeIs, ?_⟩
  refine wpAny_getItem_list_slice ht.isList hs pl pu .none (by simp) ?_ (by rw [List.size_toArray] <;> omega)
  rw [slicePick_cut, ← hlen]
  refine ⟨.ref s.heap.objs.size, _, I.laid (t' := s.toks) (o := .lst (cutV xs lo hi)) (fun b ob q => Heap.get?_push_of_some _ q) (Nat.le_refl _) ?_, rfl, q _ (I.hok.fresh (Nat.le_refl _))⟩
  exact ⟨Nat.le_trans (cutV_length xs lo hi) hz, _, 0, (r.drop (HT.sIx xs.length 0 lo)).take (HT.sIx xs.length xs.length hi - HT.sIx xs.length 0 lo), Heap.get?_push_size _ rfl⟩

theorem call_len_seq : CallR X (.builtin "len") (fun xs H Q => ∃ p ys, xs = [.ref p] ∧ (SqL X.K H p ys ∨ SqT X.K H p ys) ∧ Q (.int ys.length) H) := by
  intro pins s σ H xs us Q I r h
  obtain ⟨p, ys, rfl, hq, q⟩ := h
  obtain ⟨u, rfl, rx⟩ := vals1 r
  cases rx
  have hn := line63
  rcases hq with hq | hq
  · obtain ⟨its, r', pl, hz⟩ := I.list hq
    have hlen := r'.length
    exact Calls.call_len_list pl.isList (by simp only [List.size_toArray] <;> omega) ⟨.int ys.length, H, I.tok _, ⟨s.toks + 1, by rw [List.size_toArray, hlen]⟩, q⟩
  · obtain ⟨its, r', pl, hz⟩ := I.tuple hq
    have hlen := r'.length
    exact len_tuple pl (by simp only [List.size_toArray] <;> omega) ⟨.int ys.length, H, I.tok _, ⟨s.toks + 1, by rw [List.size_toArray, hlen]⟩, q⟩
theorem CallR.or {f : Value} {r r' : List V → Hp → VK → Prop} (h : CallR X f r) (h' : CallR X f r') : CallR X f (fun xs H Q => r xs H Q ∨ r' xs H Q) := by
  intro pins s σ H xs us Q I rs q
  rcases q with q | q
  · exact h pins s σ H xs us Q I rs q
  · exact h' pins s σ H xs us Q I rs q
theorem call_list_of : CallR X (.type "list") (fun xs H Q => ∃ p ys, xs = [.ref p] ∧ (SqL X.K H p ys ∨ SqT X.K H p ys) ∧ ∀ l, H l = none → Q (.ref l) (upd H l (.lst ys))) := by
  intro pins s σ H xs us Q I r h
  obtain ⟨p, ys, rfl, hq, q⟩ := h
  obtain ⟨u, rfl, rx⟩ := vals1 r
  cases rx
  have fin : ∀ (its : List Value), Vals ys its → ys.length ≤ sizeLine → ∀ (h' : Heap) (c' : Nat), (∀ b o', s.heap.get? b = some o' → h'.get? b = some o') →
      h'.get? s.heap.objs.size = some { cls := .type "list", dict := none, data := .seq its.toArray c', slots := #[] } → EP X pins σ Q (.ref s.heap.objs.size) { s with heap := h' } := fun its r' hz h' c' kp e =>
    ⟨.ref s.heap.objs.size, _, I.laid (t' := s.toks) kp (Nat.le_refl _) (show ObjOk X.prog X.w _ h' _ (.lst ys) from ⟨hz, its, c', r', e⟩), rfl, q _ (I.hok.fresh (Nat.le_refl _))⟩
  rcases hq with hq | hq
  · obtain ⟨its, r', pl, hz⟩ := I.list hq
    have hlen := r'.length
    obtain ⟨o, ho, hc, n, hd⟩ := pl.isList
    exact call_list_seq p (.inl rfl) ho hc hd (fun h' c' kp e => fin its r' hz h' c' kp e) (by simp only [List.size_toArray] <;> omega)
  · obtain ⟨its, r', pl, hz⟩ := I.tuple hq
    have hlen := r'.length
    obtain ⟨o, ho, hc, n, hd⟩ := pl
    exact call_list_seq p (.inr rfl) ho hc hd (fun h' c' kp e => fin its r' hz h' c' kp e) (by simp only [List.size_toArray] <;> omega)
noncomputable def tyV (K : PySem.W.Frag) (T : String) (x : V) (H : Hp) : Prop := match x with
  | .str _ => T = "str"
  | .int _ => T = "int"
  | .ref p => (T = "list" ∧ ∃ xs, SqL K H p xs) ∨ (T = "tuple" ∧ ∃ o, K.lookup p = some o ∧ o.cls = .type "tuple" ∧ o.dict = none) ∨
      (T = "dict" ∧ ((∃ kvs, H p = some (.dK kvs)) ∨ ∃ kvs, H p = some (.dT kvs))) ∨ (T = "set" ∧ ∃ S n, H p = some (.set S n))
  | _ => False
theorem tyV_is {pins : List (Addr × Obj)} {σ : St} {H : Hp} {s : Shared} {T : String} {x : V} {v : Value} (I : Inv X pins σ H s) (r : RelV x v) (ty : tyV X.K T x H) :
    s.TypeIs v T ∧ ∀ a, v = .ref a → ∃ ob, s.heap.get? a = some ob ∧ ob.dict = none := by
  cases x with
  | str z =>
    obtain ⟨t, rfl⟩ := r
    cases (show T = "str" from ty)
    exact ⟨typeIs_str s z t, fun _ e => nomatch e⟩
  | int i =>
    obtain ⟨t, rfl⟩ := r
    cases (show T = "int" from ty)
    exact ⟨typeIs_int s i t, fun _ e => nomatch e⟩
  | ref p =>
    cases r
    rcases ty with ⟨rfl, xs, hq⟩ | ⟨rfl, o, hk, hc, hd⟩ | ⟨rfl, hk⟩ | ⟨rfl, S, n, hk⟩
    · obtain ⟨its, _, pl, _⟩ := I.list hq
      refine ⟨pl.isList.typeIs, fun a e => ?_⟩
      cases e
      obtain ⟨o, n, e, c, hd, _⟩ := pl
      exact ⟨o, e, hd⟩
    · refine ⟨⟨o, I.kIn p o hk, hc⟩, fun a e => ?_⟩
      cases e
      exact ⟨o, I.kIn _ o hk, hd⟩
    · have z : ∃ o, s.heap.get? p = some o ∧ o.ExactDict := by
        rcases hk with ⟨kvs, hk⟩ | ⟨kvs, hk⟩
        · obtain ⟨_, _, _, _, o, _, _, e, ex, _⟩ := I.hok p _ hk
          exact ⟨o, e, ex⟩
        · obtain ⟨_, _, _, _, o, _, _, e, ex, _⟩ := I.hok p _ hk
          exact ⟨o, e, ex⟩
      obtain ⟨o, e, ex⟩ := z
      refine ⟨⟨o, e, ex.1⟩, fun a e2 => ?_⟩
      cases e2
      exact ⟨o, e, ex.2.1⟩
    · obtain ⟨o, _, _, _, e, ex, _⟩ := I.hok p _ hk
      refine ⟨⟨o, e, ex.1⟩, fun a e2 => ?_⟩
      cases e2
      exact ⟨o, e, ex.2.1⟩
  | _ => exact False.elim ty
noncomputable def tBM0 (K : PySem.W.Frag) (T : String) (r : V → List V → Hp → VK → Prop) (to : TE) : TE := fun σ H Q => to σ H fun x H1 => tyV K T x H1 ∧ r x [] H1 Q
noncomputable def tBM (K : PySem.W.Frag) (T : String) (r : V → List V → Hp → VK → Prop) (to : TE) (t : TA) : TE := fun σ H Q => to σ H fun x H1 => tyV K T x H1 ∧ t σ H1 fun xs H2 => r x xs H2 Q
variable {o e : Expr} {es : List Expr} {to : TE} {t : TA} {name : Str} {apos cpos : Pos} {T id : String} {r : V → List V → Hp → VK → Prop}
theorem pe_bm0 (pa : PlainAttrs T) (slot : Slot T name id) (hty : typeOf (.builtin id) = pure (.type "method_descriptor")) (hm : MtR X id r) (ho : PE X o to)
    (hbase : attributeBase o name X.env (eval o X.env) = eval o X.env := by rfl) (hline : (apos.endLine == cpos.line) = true := by rfl) : PE X (.Call (.Attribute o name apos) [] [] cpos) (tBM0 X.K T r to) := by
  intro pins s σ H Q I h
  refine wpAny_Call_method0_late hbase hline (thn (ho pins s σ H _ I h) fun v s1 ⟨x, H1, I1, r1, ty, q1⟩ => ?_)
  obtain ⟨h1, h2⟩ := tyV_is I1 r1 ty
  exact ⟨T, id, pa, slot, hty, h1, h2, Calls.callWith_builtin rfl (PySem.evalArgs_none (hm pins s1 σ H1 x [] v [] Q I1 r1 .nil q1))⟩
theorem pe_bm (pa : PlainAttrs T) (slot : Slot T name id) (hty : typeOf (.builtin id) = pure (.type "method_descriptor")) (hm : MtR X id r) (ho : PE X o to) (ha : PA X (e :: es) t)
    (hbase : attributeBase o name X.env (eval o X.env) = eval o X.env := by rfl)
    (hfew : ((backTo cpos (starEach (e :: es) X.env)).all (fun x => !x.1) && (backToKw cpos (keywordEach [] X.env)).all (fun x => x.1.isSome)
      && decide ((e :: es).length + ([] : List Keyword).length + (if ([] : List Keyword).isEmpty then 0 else 1) < 30)) = true := by rfl)
    (hline : (apos.endLine == cpos.line) = true := by rfl) (hs : starEach (e :: es) X.env = (false, eval e X.env) :: starEach es X.env := by rfl) (hplain : (backTo cpos (starEach es X.env)).any (·.1) = false := by rfl) :
    PE X (.Call (.Attribute o name apos) (e :: es) [] cpos) (tBM X.K T r to t) := by
  intro pins s σ H Q I h
  refine wpAny_Call_method_late hbase hfew hline rfl (thn (ho pins s σ H _ I h) fun v s1 ⟨x, H1, I1, r1, ty, q1⟩ => ?_)
  obtain ⟨h1, h2⟩ := tyV_is I1 r1 ty
  refine ⟨T, id, pa, slot, hty, h1, h2, ?_⟩
  have hA := ha cpos pins s1 σ H1 _ I1 q1
  rw [hs] at hA ⊢
  refine Calls.callWith_builtin (by show (false || (backTo cpos (starEach es X.env)).any (·.1)) = false; rw [hplain] <;> rfl) (Calls.evalArgs_plain ?_)
  exact thn hA fun us s2 ⟨vs, H2, I2, r2, q2⟩ => hm pins s2 σ H2 x vs v us Q I2 r1 r2 q2
/- xs.append(e), list.index on a module's tuple .. are MtR facts of 06m -/
end
end L2

namespace L2
open PySem PySem.Spec PyProof.Rows

noncomputable def MtM (X : Cx) (id : String) (r : V → List V → Hp → VK → Prop) : Prop :=
  ∀ (pins : List (Addr × Obj)) (s : Shared) (σ : St) (H : Hp) (x : V) (xs : List V) (v : Value) (us : List Value) (Q : VK), Inv X pins σ H s → RelV x v → Vals xs us → r x xs H Q →
    wpAny (model X.prog X.w) X.A (call (.builtin id) (v :: us)) (EP X pins σ Q) X.xe s

theorem Vals.one : ∀ {x : V} {us : List Value}, Vals [x] us → ∃ u, us = [u] ∧ RelV x u
  | _, _, .cons r .nil => ⟨_, rfl, r⟩
theorem Vals.two : ∀ {x y : V} {us : List Value}, Vals [x, y] us → ∃ u v, us = [u, v] ∧ RelV x u ∧ RelV y v
  | _, _, _, .cons r (.cons q .nil) => ⟨_, _, rfl, r, q⟩
theorem Vals.zero : ∀ {us : List Value}, Vals [] us → us = []
  | _, .nil => rfl
theorem Vals.dropLast {xs : List V} {us : List Value} (h : Vals xs us) : Vals xs.dropLast us.dropLast := by
  induction h with
  | nil => exact .nil
  | cons r t ih =>
    cases t with
    | nil => exact .nil
    | cons q t' => exact .cons r ih
theorem Vals.eraseIdx : ∀ {xs : List V} {us : List Value} (i : Nat), Vals xs us → Vals (xs.eraseIdx i) (us.eraseIdx i)
  | _, _, _, .nil => .nil
  | _, _, 0, .cons _ t => t
  | _, _, i + 1, .cons r t => .cons r (Vals.eraseIdx i t)
theorem Vals.reverse {xs : List V} {us : List Value} (h : Vals xs us) : Vals xs.reverse us.reverse := by
  induction h with
  | nil => exact .nil
  | cons r t ih => rw [List.reverse_cons, List.reverse_cons]; exact Vals.append ih (.cons r .nil)
theorem Vals.rep {xs : List V} {us : List Value} (h : Vals xs us) : ∀ k : Nat, Vals (List.replicate k xs).flatten (List.replicate k us).flatten
  | 0 => .nil
  | k + 1 => by
    rw [List.replicate_succ, List.replicate_succ, List.flatten_cons, List.flatten_cons]
    exact Vals.append h (Vals.rep h k)
theorem erase_last {α : Type} (l : List α) : l.eraseIdx (l.length - 1) = l.dropLast := by
  induction l with
  | nil => rfl
  | cons a r ih =>
    cases r with
    | nil => rfl
    | cons b r =>
      have e : (a :: b :: r).length - 1 = ((b :: r).length - 1) + 1 := by
        have h1 : (a :: b :: r).length = r.length + 2 := rfl
        have h2 : (b :: r).length = r.length + 1 := rfl
        omega
      rw [e, List.eraseIdx_cons_succ, ih]
      all_goals rfl
theorem foldl_rep (its : List Value) : ∀ (k : Nat) (acc : List Value),
    List.foldl (fun x1 x2 => x1 ++ x2) acc.toArray (List.replicate k its.toArray) = (acc ++ (List.replicate k its).flatten).toArray
  | 0, acc => by simp
  | k + 1, acc => by
    have e : acc.toArray ++ its.toArray = (acc ++ its).toArray := by simp
    have e2 : (acc ++ its) ++ (List.replicate k its).flatten = acc ++ (List.replicate (k + 1) its).flatten := by
      rw [List.replicate_succ, List.flatten_cons, List.append_assoc]
    rw [← e2, ← foldl_rep its k (acc ++ its), ← e, List.replicate_succ, List.foldl_cons]

section
variable {X : Cx} {pins : List (Addr × Obj)} {σ : St} {H : Hp} {s : Shared} {l b : Addr} {xs ys zs : List V}

theorem Inv.lset {its its' : List Value} {n : Nat} {f : Array Value → Array Value} {t' : Nat} (I : Inv X pins σ H s) (hH : H l = some (.lst xs))
    (e : s.heap.get? l = some { cls := .type "list", data := .seq its.toArray n }) (hf : f its.toArray = its'.toArray) (hv : Vals ys its') (hz : ys.length ≤ sizeLine) :
    Inv X pins σ (upd H l (.lst ys)) { s with heap := s.heap.update l (Obj.mapSeq f), toks := t' } := by
  have q := PySem.IsL.update e f
  rw [hf] at q
  refine I.write (x := l) (e := l) (by rw [hH]; exact trivial) (.inl rfl) (fun b' u hb hu => (Heap.get?_update_other s.heap (Obj.mapSeq f) (Ne.symm hb)).trans hu) ⟨_, q⟩ ?_
  exact ⟨hz, its', _, hv, q⟩
theorem Inv.lnew {its : List Value} {t' : Nat} (I : Inv X pins σ H s) (hv : Vals ys its) (hz : ys.length ≤ sizeLine) :
    Inv X pins σ (upd H s.heap.objs.size (.lst ys)) { s with heap := s.heap.push { cls := .type "list", data := .seq its.toArray }, toks := t' } :=
  I.laid (fun _ _ q => Heap.get?_push_of_some _ q) (Nat.le_refl _) ⟨hz, its, 0, hv, Heap.get?_push_size _ rfl⟩
theorem Inv.fresh (I : Inv X pins σ H s) : H s.heap.objs.size = none := I.hok.fresh (Nat.le_refl _)
theorem Inv.lstM (I : Inv X pins σ H s) (hH : H l = some (.lst xs)) : xs.length ≤ sizeLine ∧ ∃ (its : List Value) (n : Nat), Vals xs its ∧ xs.length = its.length ∧ s.heap.get? l = some { cls := .type "list", data := .seq its.toArray n } := by
  obtain ⟨z, its, n, r, e⟩ := I.hok l _ hH
  exact ⟨z, its, n, r, r.length, e⟩

theorem notLongL {n : Nat} (h : n ≤ sizeLine) : Builtin.List.listTooLong n = false := by
  unfold Builtin.List.listTooLong
  exact decide_eq_false (by omega)
end

section
variable {X : Cx}

noncomputable def rAppend : V → List V → Hp → VK → Prop := fun x vs H Q => ∃ l xs y, x = .ref l ∧ vs = [y] ∧ H l = some (.lst xs) ∧ xs.length < sizeLine ∧ Q .non (upd H l (.lst (xs ++ [y])))
theorem mt_append : MtM X "list.append" rAppend := by
  intro pins s σ H x vs v us Q I rx rv h
  obtain ⟨l, xs, y, rfl, rfl, hH, hz, q⟩ := h
  cases rx
  obtain ⟨u, rfl, ru⟩ := rv.one
  obtain ⟨z, its, n, r, hl, e⟩ := I.lstM hH
  refine call_meets F.slot_list_append ⟨_, e, rfl⟩ F.entry_list_append (F.args_list_append_2 _ _) (PySem.list_append l its.toArray n u (by rw [List.size_toArray]; omega)) ⟨e, ?_⟩
  refine ⟨.non, _, I.lset (its' := its ++ [u]) hH e (by simp) (r.append (.cons ru .nil)) ?_, rfl, q⟩
  rw [List.length_append, List.length_singleton]
  omega

noncomputable def rExtend : V → List V → Hp → VK → Prop := fun x vs H Q => ∃ l b xs zs, x = .ref l ∧ vs = [.ref b] ∧ H l = some (.lst xs) ∧ H b = some (.lst zs) ∧ xs.length + zs.length ≤ sizeLine ∧ Q .non (upd H l (.lst (xs ++ zs)))
theorem mt_extend : MtM X "list.extend" rExtend := by
  intro pins s σ H x vs v us Q I rx rv h
  obtain ⟨l, b, xs, zs, rfl, rfl, hH, hB, hz, q⟩ := h
  cases rx
  obtain ⟨u, rfl, ru⟩ := rv.one
  cases ru
  obtain ⟨z, its, n, r, hl, e⟩ := I.lstM hH
  obtain ⟨z2, its2, n2, r2, hl2, e2⟩ := I.lstM hB
  have hsz : its.toArray.size + its2.toArray.size ≤ sizeLine := by rw [List.size_toArray, List.size_toArray]; omega
  have hlong : ¬ (!its.toArray.isEmpty && Builtin.List.listTooLong (its.toArray.size + its2.toArray.size)) = true := by
    rw [notLongL hsz, Bool.and_false]
    exact Bool.false_ne_true
  refine call_meets F.slot_list_extend ⟨_, e, rfl⟩ F.entry_list_extend (F.args_list_extend_2 _ _)
    (AutoSeq1.list_extend_list_list_0 l its.toArray n b its2.toArray n2 hlong (by rw [List.size_toArray]; omega) (by omega)) ⟨e, e2, ?_⟩
  refine ⟨.non, _, I.lset (its' := its ++ its2) hH e (by simp) (r.append r2) ?_, rfl, q⟩
  rw [List.length_append]
  omega

noncomputable def rPop : V → List V → Hp → VK → Prop := fun x vs H Q => ∃ l xs y, x = .ref l ∧ vs = [] ∧ H l = some (.lst xs) ∧ xs[xs.length - 1]? = some y ∧ Q y (upd H l (.lst xs.dropLast))
theorem mt_pop : MtM X "list.pop" rPop := by
  intro pins s σ H x vs v us Q I rx rv h
  obtain ⟨l, xs, y, rfl, rfl, hH, hy, q⟩ := h
  cases rx
  have hus := rv.zero
  subst hus
  obtain ⟨z, its, n, r, hl, e⟩ := I.lstM hH
  obtain ⟨u, hu, ru⟩ := r.get hy
  have hy' : its.toArray[its.toArray.size - 1]? = some u := by
    show its.toArray[its.length - 1]? = some u
    rw [← Array.getElem?_toList, ← hl]
    exact hu
  refine call_meets F.slot_list_pop ⟨_, e, rfl⟩ F.entry_list_pop (F.args_list_pop_1 _) (MeetsSeq.list_pop_last l its.toArray n u hy' (by rw [List.size_toArray]; omega)) ⟨e, ?_⟩
  refine ⟨y, _, I.lset (its' := its.dropLast) hH e ?_ r.dropLast ?_, ru, q⟩
  · show its.toArray.eraseIdxIfInBounds (its.toArray.size - 1) = its.dropLast.toArray
    rw [List.size_toArray, List.eraseIdxIfInBounds_toArray, erase_last]
  · rw [List.length_dropLast]
    omega

noncomputable def rClear : V → List V → Hp → VK → Prop := fun x vs H Q => ∃ l xs, x = .ref l ∧ vs = [] ∧ H l = some (.lst xs) ∧ Q .non (upd H l (.lst []))
theorem mt_clear : MtM X "list.clear" rClear := by
  intro pins s σ H x vs v us Q I rx rv h
  obtain ⟨l, xs, rfl, rfl, hH, q⟩ := h
  cases rx
  have hus := rv.zero
  subst hus
  obtain ⟨z, its, n, r, hl, e⟩ := I.lstM hH
  refine call_meets F.slot_list_clear ⟨_, e, rfl⟩ F.entry_list_clear (F.args_list_clear_1 _) (AutoSeq1.list_clear_list_0 l its.toArray n (by rw [List.size_toArray]; omega)) ⟨e, ?_⟩
  exact ⟨.non, _, I.lset (its' := []) (ys := []) hH e rfl .nil (Nat.zero_le _), rfl, q⟩

noncomputable def rCat : R2 := fun x y H Q => ∃ l b xs zs, x = .ref l ∧ y = .ref b ∧ H l = some (.lst xs) ∧ H b = some (.lst zs) ∧ xs.length + zs.length ≤ sizeLine ∧ ∀ p, H p = none → Q (.ref p) (upd H p (.lst (xs ++ zs)))
theorem op_cat : OpR X (binaryOp .Add) rCat := by
  intro pins s σ H x y v u Q I rx ry h
  obtain ⟨l, b, xs, zs, rfl, rfl, hH, hB, hz, q⟩ := h
  cases rx
  cases ry
  obtain ⟨z, its, n, r, hl, e⟩ := I.lstM hH
  obtain ⟨z2, its2, n2, r2, hl2, e2⟩ := I.lstM hB
  refine PySem.P.add_list e e2 ?_ (by rw [List.size_toArray, List.size_toArray]; omega)
  have ea : its.toArray ++ its2.toArray = (its ++ its2).toArray := by simp
  rw [ea]
  exact ⟨.ref _, _, I.lnew (t' := s.toks) (r.append r2) (by rw [List.length_append]; omega), rfl, q _ I.fresh⟩
noncomputable def rRep : R2 := fun x y H Q => ∃ l k xs, x = .ref l ∧ y = .int k ∧ H l = some (.lst xs) ∧ -(2 ^ 63) ≤ k ∧ k < 2 ^ 63 ∧ xs.length * k.toNat ≤ sizeLine ∧
  ∀ p, H p = none → Q (.ref p) (upd H p (.lst (List.replicate k.toNat xs).flatten))
theorem len_rep {α : Type} (xs : List α) (k : Nat) : (List.replicate k xs).flatten.length = k * xs.length := by
  induction k with
  | zero => simp
  | succ k ih => rw [List.replicate_succ, List.flatten_cons, List.length_append, ih, Nat.succ_mul, Nat.add_comm]
theorem op_rep : OpR X (binaryOp .Mult) rRep := by
  intro pins s σ H x y v u Q I rx ry h
  obtain ⟨l, k, xs, rfl, rfl, hH, h1, h2, hz, q⟩ := h
  cases rx
  obtain ⟨t, rfl⟩ := ry
  obtain ⟨z, its, n, r, hl, e⟩ := I.lstM hH
  have hlen : its.toArray.size * k.toNat ≤ sizeLine := by rw [List.size_toArray, ← hl]; exact hz
  have hcap : ¬ its.toArray.size * k.toNat > (2 ^ 63 - 1) / 8 := by
    have : (sizeLine : Nat) ≤ (2 ^ 63 - 1) / 8 := by decide
    omega
  have hfit : ¬ (!Builtin.List.listFitsIndex k) = true := by
    rw [fitsIndex_both h1 h2]
    exact Bool.false_ne_true
  have hlong : ¬ Builtin.List.listTooLong (its.toArray.size * k.toNat) = true := by
    rw [notLongL hlen]
    exact Bool.false_ne_true
  have hnew : List.foldl (fun x1 x2 => x1 ++ x2) #[] (List.replicate (if its.toArray.isEmpty = true then 0 else k.toNat) its.toArray) = (List.replicate k.toNat its).flatten.toArray := by
    have f0 : ∀ m : Nat, List.foldl (fun x1 x2 => x1 ++ x2) #[] (List.replicate m its.toArray) = (List.replicate m its).flatten.toArray := fun m => by
      have := foldl_rep its m []
      rw [List.nil_append] at this
      exact this
    rw [f0]
    cases its with
    | nil => simp
    | cons a r' => rw [if_neg (by simp)]
  refine wpAny_binaryOp_repeat_ref (T := "list") (U := "int") (by decide) ⟨_, e, rfl⟩ (fun s' => typeIs_int s' k t) noFill_list_mul F.fills_int_mul F.slot_int_rmul repeat_list F.slot_int_index.lookup
    (call_meets F.slot_int_rmul (typeIs_int s k t) F.entry_int_rmul (F.args_int_rmul_2 _ _) (int___rmul___int_list k t l its.toArray n)
      ⟨e, rfl, ⟨_, e, rfl⟩, call_meets F.slot_list_mul ⟨_, e, rfl⟩ F.entry_list_mul (F.args_list_mul_2 _ _) (AutoListH.list___mul___list_int_3 l its.toArray n k t hfit hcap hlong) ⟨e, ?_⟩⟩)
  rw [hnew]
  exact ⟨.ref _, _, I.lnew (t' := s.toks) (r.rep k.toNat) (by rw [len_rep, Nat.mul_comm]; exact hz), rfl, q _ I.fresh⟩

end

section
variable {prog : Program} {w : World} {A : Around} {E : Value → Shared → Prop} {s : Shared}
end

section
variable {X : Cx}
end
end L2

namespace Att
open PySem PySem.W PySem.Calls PyProof.Rows

theorem ints_of_wellAll {P : Params} {h : Heap} : ∀ (ns : List Int) (vs : List Value), WellAll P h vs (ns.map WData.int) → IntsAre vs ns := by
  intro ns
  induction ns with
  | nil =>
    intro vs w
    rw [List.map_nil] at w
    cases w
    exact .nil
  | cons n ns ih =>
    intro vs w
    rw [List.map_cons] at w
    cases w with
    | cons a b =>
      cases a
      exact .cons _ _ (ih _ b)

theorem script_of {l : OpenLaw} {n : Nat} (hn : l.most = some n) {P : Params} {h : Heap} {args : List WData} {vals : List Value}
    (hpre : l.row.toRowW.claim.pre args = true) (hwl : WellAll P h vals args) :
    ∃ a vs ns, vals = [Value.ref a] ∧ args = [WData.list (ns.map WData.int)] ∧ h.get? a = some { cls := .type "list", data := .seq vs.toArray } ∧ IntsAre vs ns ∧ ns.length ≤ n := by
  have hsh : WShape.hasAll [] args [.list .int] = true := (pre_splitW hpre).1
  have hc : l.pre.holds [] { args := args } = true := (pre_splitW hpre).2
  obtain ⟨d, r, rfl, h1, h2⟩ := hasAllW_cons hsh
  obtain rfl := hasAllW_nil h2
  obtain ⟨xs, rfl, h3⟩ := hasW_list h1
  obtain ⟨ns, rfl⟩ := items_int h3
  have hlen : ns.length ≤ n := by
    unfold OpenLaw.pre at hc
    have h4 : (WTm.not (.lt (.lit (.int (n : Int))) (.len (.arg 0)))).holds [] { args := [.list (ns.map .int)] } = true := by
      have h4 := (holds_andW hc).1
      rw [hn] at h4
      exact h4
    have h5 := condW_of h4 (w_not (w_lt w_lit (w_len_list (w_arg rfl))))
    rw [List.length_map] at h5
    refine Nat.le_of_not_lt fun q => ?_
    have q' : (n : Int) < ((ns.length : Nat) : Int) := by omega
    first
      | (rw [decide_eq_true q'] at h5; exact absurd h5 (by decide))
      | (simp at h5; omega)
  cases hwl with
  | cons w1 w2 =>
    cases w2
    cases w1 with
    | list ho hall => exact ⟨_, _, ns, rfl, rfl, ho, ints_of_wellAll ns _ hall, hlen⟩

theorem post_true (l : OpenLaw) (args : List WData) : l.row.toRowW.claim.post args (.bool true) args = true :=
  postW_of (r := l.row.toRowW) (X := (true == true))
    (show WShape.has [] (.bool true) .bool = true by first | rfl | decide | simp [WShape.has, WShape.arms, WShape.armsAll])
    (show (WTm.eq .res (.lit (.bool true))).value [] { args := args, res := some (.bool true), after := args } = some (.bool (true == true)) from w_eq_bool (w_res rfl) w_lit) rfl

theorem attach_call {l : OpenLaw} {n : Nat} {q : Program} {loose : List Str} {XP : (Str → Option Value) → Heap → Prop} {YP : World → Heap → Prop} {d : DefRec}
    (hn : l.most = some n) (hdf : d.params.defaults = [])
    (call : ∀ (w : World) (s₀ s₁ : Shared) (mg mb : Str → Option Value) (fa : Addr) (o : Obj) (pm cd doc : Value) (a : Addr) (vs : List Value) (ns : List Int),
      Ground q loose [] XP w s₀ mg mb s₁.heap → YP w s₁.heap →
      s₁.heap.get? fa = some o → o.data = .func (docDef d.name d.params d.body d.scope pm cd doc) → s₁.heap.CodeRec cd d.name → mg d.name = some (.ref fa) →
      s₁.heap.get? a = some { cls := .type "list", data := .seq vs.toArray } → IntsAre vs ns → ns.length ≤ n → s₁.gens = #[] →
      codeAny (model l.prog w) callerA (.call (.ref fa) ⟨[.ref a], []⟩) (fun r s' => r = .ok (.ret (.bool true)) ∧ OldK s₁.heap s'.heap ∧ s'.os = s₁.os ∧ AllBare s'.gens) s₁) :
    WalkO q loose XP YP l.row.toRowW d [] (fun f vs => PySem.call f vs) := by
  intro w s₀ s₁ mg mb G Y fa o pm cd doc dV kV ho hd hcd hD hmg hg args vals as hpre hlay hrd hwl hlo
  obtain rfl : dV = .none := Dflts.none hD hdf
  obtain rfl : kV = .none := Dflts.noKw hD
  obtain ⟨a, vs, ns, rfl, rfl, hobj, hints, hlen⟩ := script_of hn hpre hwl
  refine enter_call (codeAny_mono (call w s₀ s₁ mg mb fa o pm cd doc a vs ns G Y ho (fd_plain hd) hcd hmg hobj hints hlen hg) fun r s' hq => ?_)
  obtain ⟨rfl, h2, h3, h4⟩ := hq
  exact ⟨.inl ⟨.bool true, .bool true, [], rfl, fun _ => rfl, .bool true, post_true l _, fun _ => ⟨List.Pairwise.nil, fun _ hm => (nomatch hm)⟩⟩, h2, h3, h4⟩

section
variable {prog : Program} {w : World} {A : Around} {E : Value → Shared → Prop} {s : Shared} {K : Frag}

end
end Att

namespace L2
open PySem PySem.Spec PyProof.Rows

theorem vals_ints : ∀ {vs : List Value} {ns : List Int}, IntsAre vs ns → Vals (ns.map V.int) vs
  | _, _, .nil => .nil
  | _, _, .cons n t h => .cons ⟨t, rfl⟩ (vals_ints h)

noncomputable def Only (H : Hp) : Prop := ∀ b, H b = none ∨ ∃ o xs, H b = some (.frz o (.lst xs))

theorem law_call {P : Program} {w : World} {K : PySem.W.Frag} {mg mb : Str → Option Value} {CX : CXT} {k : Nat} {fa a : Addr} {fd : FuncData} {x : Str} {sp : Sp} {s₁ : Shared} {vs : List Value} {ns : List Int}
    (KX : K.In s₁.heap) (hns : s₁.heap.Ns mainGlobals mg) (hb : s₁.heap.Ns builtinsNs mb) (hbb : ∀ x : Str, x ≠ "__name__" → mb x = bootBuiltins x) (hlim : s₁.heap.NoLimit) (hg : s₁.gens = #[])
    (ha : s₁.heap.get? a = some { cls := .type "list", data := .seq vs.toArray }) (hi : IntsAre vs ns) (hl : ns.length ≤ sizeLine) (hr : Room k callerA)
    (F : ∀ base : Heap, K.In base → base.Ns mainGlobals mg → FnOk P w K mg base CX k fa fd [x] sp) (hbind : ∀ (s : Shared) (u : Value), BindsTo s fd ⟨[u], []⟩ [(x, u)])
    (hsp : ∀ H : Hp, Only H → SqL K H a (ns.map V.int) → sp [.ref a] H (fun v _ => v = .bl true) fun _ _ _ => False)
    (hCX : ∀ H e s', CX [] H s₁ (fun _ _ _ => False) e s' → False) :
    codeAny (model P w) callerA (.call (.ref fa) ⟨[.ref a], []⟩) (fun r s' => r = .ok (.ret (.bool true)) ∧ OldK s₁.heap s'.heap ∧ s'.os = s₁.os ∧ AllBare s'.gens) s₁ := by
  have rv := vals_ints hi
  have lenV := hi.length
  -- from an abstract heap in which nothing but the script may be tracked
  have core : ∀ H : Hp, Only H → SqL K H a (ns.map V.int) → HOk P w H s₁.heap → (∀ b, H b ≠ none → b = a) → (H a ≠ none → K.lookup a = none) →
      codeAny (model P w) callerA (.call (.ref fa) ⟨[.ref a], []⟩) (fun r s' => r = .ok (.ret (.bool true)) ∧ OldK s₁.heap s'.heap ∧ s'.os = s₁.os ∧ AllBare s'.gens) s₁ := by
    intro H hO hS hok hA hK
    have base_of : ∀ {b : Addr} {o : Obj}, s₁.heap.get? b = some o → H b = none → (hidT s₁.heap H).get? b = some o := fun e n => hidT_get e n
    have noA : ∀ {b : Addr} {o : Obj} {es : Array DictEntry} {ep : Nat}, s₁.heap.get? b = some o → o.data = .dict es ep → H b = none := fun {b o es ep} e d => by
      cases q : H b with
      | none => rfl
      | some u =>
        have e' : b = a := hA b (by rw [q]; simp)
        subst e'
        rw [ha] at e; cases e
        have d' : Data.seq vs.toArray _ = Data.dict es ep := d
        cases d'
    have nsK : ∀ {b : Addr} {m : Str → Option Value}, s₁.heap.Ns b m → (hidT s₁.heap H).Ns b m := fun {b m} ⟨o, es, ep, e, d, r⟩ => ⟨o, es, ep, base_of e (noA e d), d, r⟩
    have hKb : K.In (hidT s₁.heap H) := fun b o e => base_of (KX b o e) (by
      cases q : H b with
      | none => rfl
      | some u =>
        have e' : b = a := hA b (by rw [q]; simp)
        subst e'
        rw [hK (by rw [q]; simp)] at e; cases e)
    have hM : Mod K mg (hidT s₁.heap H) := ⟨hKb, nsK hns, ⟨mb, nsK hb, hbb⟩, let ⟨mc, h1, h2⟩ := hlim; ⟨mc, nsK h1, h2⟩⟩
    have e0 : Env0 P w K mg (hidT s₁.heap H) callerA [] s₁ H := ⟨rfl, hM, fun b o e => of_hidT e, Nat.le_of_eq (hidT_size _ _), trivial, fun b hb => absurd (show b ∈ ([] : List Addr) from hb) (by simp), hok, .of_eq hg⟩
    refine codeAny_mono ((F _ hKb (nsK hns)).run callerA [] s₁ H ⟨[.ref a], []⟩ [.ref a] [.ref a] _ _ hr e0 (hbind s₁ (.ref a)) (.cons rfl .nil) (hsp H hO hS)) fun r s' h => ?_
    cases r with
    | error e => exact (hCX H e s' h).elim
    | ok fl =>
      cases fl with
      | next => exact False.elim h
      | brk => exact False.elim h
      | cont => exact False.elim h
      | ret u =>
        obtain ⟨v, H', os, bare, un, hok', r', q⟩ := h
        have q' : v = .bl true := q
        subst q'
        obtain rfl : u = Value.bool true := r'
        refine ⟨rfl, OldK.of_keep fun b o e => ?_, os, bare⟩
        cases q : H b with
        | none => exact un.keep b o e q (by intro z; exact absurd (show b ∈ ([] : List Addr) from z) (by simp)) (by simp)
        | some u =>
          rcases hO b with z | ⟨ob, xs, z⟩
          · rw [q] at z; cases z
          · have z2 := un.frzs b ob _ z
            obtain ⟨e1, _⟩ := hok b _ z
            obtain ⟨e2, _⟩ := hok' b _ z2
            rw [e] at e1; cases e1
            exact e2
  cases hk : K.lookup a with
  | some o =>
    -- the script is one of the module's own objects
    have e := KX a o hk
    rw [ha] at e
    cases e
    refine core (fun _ => none) (fun _ => .inl rfl) (.inr ⟨_, vs.toArray, _, hk, rfl, rfl, rfl, by rw [List.size_toArray, lenV]; exact hl, by simpa using rv⟩) (fun b u z => by have z' : (none : Option HO) = some u := z; cases z') (fun b z => absurd rfl z) fun z => absurd rfl z
  | none =>
    refine core (fun b => if b = a then some (.frz { cls := .type "list", data := .seq vs.toArray } (.lst (ns.map V.int))) else none) (fun b => ?_) (.inl (.inr ⟨{ cls := .type "list", data := .seq vs.toArray }, if_pos rfl⟩)) (fun b u z => ?_) (fun b z => ?_) fun _ => hk
    · by_cases hb : b = a
      · exact .inr ⟨_, _, if_pos hb⟩
      · exact .inl (if_neg hb)
    · by_cases hb : b = a
      · have z' := (if_pos hb).symm.trans z
        cases z'
        subst hb
        exact ⟨ha, by rw [List.length_map]; exact hl, vs, _, rv, ha⟩
      · have z' := (if_neg hb).symm.trans z
        cases z'
    · by_cases hb : b = a
      · exact hb
      · exact absurd (if_neg hb) z
end L2

namespace L2
open PySem PySem.Spec PyProof.Rows

noncomputable abbrev KOf {K : PySem.W.Frag} {h : Heap} (_ : K.In h) : PySem.W.Frag := K

theorem walk_of {l : PySem.W.OpenLaw} {n k : Nat} {q : Program} {loose : List Str} {XP : (Str → Option Value) → Heap → Prop} {YP : World → Heap → Prop} {d : DefRec} {K : Params → PySem.W.Frag} {CX : World → CXT} {sp : World → Sp} {x : Str}
    (hn : l.most = some n) (hn2 : n ≤ sizeLine) (hdf : d.params.defaults = []) (hr : Room k callerA)
    (hY : ∀ (w : World) (h : Heap), YP w h → (K w.params).In h)
    (F : ∀ (w : World) (mg : Str → Option Value) (fa : Addr) (h : Heap), (K w.params).In h → h.Ns mainGlobals mg → mg d.name = some (.ref fa) →
      ∃ fd : FuncData, (∀ (s : Shared) (u : Value), BindsTo s fd ⟨[u], []⟩ [(x, u)]) ∧
        ∀ base : Heap, (K w.params).In base → base.Ns mainGlobals mg → FnOk l.prog w (K w.params) mg base (CX w) k fa fd [x] (sp w))
    (hsp : ∀ (w : World) (H : Hp) (a : Addr) (ns : List Int), ns.length ≤ n → Only H → SqL (K w.params) H a (ns.map V.int) → sp w [.ref a] H (fun v _ => v = .bl true) fun _ _ _ => False)
    (hCX : ∀ (w : World) (H : Hp) (s : Shared) (e : Value) (s' : Shared), CX w [] H s (fun _ _ _ => False) e s' → False) :
    PySem.W.WalkO q loose XP YP l.row.toRowW d [] (fun f vs => PySem.call f vs) := by
  refine Att.attach_call hn hdf fun w s₀ s₁ mg mb fa o pm cd doc a vs ns G Y ho hd hcd hmg hobj hints hlen hg => ?_
  have KX := hY w _ Y
  obtain ⟨fd, hb, hF⟩ := F w mg fa _ KX G.T.g hmg
  exact law_call KX G.T.g G.T.b G.T.builtins G.T.nolimit hg hobj hints (Nat.le_trans hlen hn2) hr hF hb (fun H hO hS => hsp w H a ns hlen hO hS) fun H e s' => hCX w H s₁ e s'
end L2

/- THE LAST THEOREM (shape; LID, My.* are yours):
   My.Adr: a structure of the addresses that your layer names (classes, functions); My.Txt K t: a structure (Prop) of the equations over K;
   My.txt_mk : {K} {implicit addresses ..} (e1 : nsIn K mainGlobals "law" = some (some (.ref f))) (e2 : K.lookup f = some ⟨oc, od, .func (fnOf "law" "law" params body scope dV kV doc pm an cdv ct), sl⟩) (e3 : codeIn K cdv "law" = true) .. : ∃ t, My.Txt K t

set_option maxRecDepth 100000 in
set_option maxHeartbeats 0 in
theorem PySem.Challenge.cw_LID_holds : PySem.Challenge.rw_LID.Holds := by
  w_on; o_law; k_head; (case hw => w_witness2)
  k_fill
  refine L2.walk_of (l := PySem.Challenge.rw_LID) (n := 63) (k := 40) (x := "script") (CX := fun w => ..) (sp := fun _ => My.sp_law) rfl (by decide) rfl ⟨rfl, by decide, by decide⟩ (fun w h Y => PySem.W.kIn_of Y) ?F ?S ?C
  case F =>
    intro w mg fa h KX G hmg
    have T : ∃ t, My.Txt (L2.KOf KX) t := by
      dsimp only [L2.KOf]                          -- K must stand as «<heap const> w.params» for k_is
      refine' My.txt_mk ?e1 ?e2 ?e3 ..
      (case e1 => PySem.W.k_is)                    -- in the order: a name -> its address -> its object -> its parts
      (case e2 => PySem.W.k_is)
      ..
    obtain ⟨t, T⟩ := T
    have e0 := hmg.symm.trans (PySem.W.mg_of KX G T.law)
    cases e0                                       -- fa is the law's own address
    exact ⟨_, fun s u => .of_eq rfl, fun base kb nb => My.law_fn T kb nb⟩     -- if «.of_eq rfl» comes too early: refine' ⟨_, ?b, fun base kb nb => My.law_fn T kb nb⟩; exact fun s u => .of_eq rfl
  case S => exact fun w H a ns hl hO hS => ..
  case C => exact ..
(the tactic k_is has no namespace: write k_is) -/

namespace L2
open PySem PySem.Spec PyProof.Rows

noncomputable def inClass (s : Stmt) (j : Nat) : Stmt := match s with
  | .ClassDef _ _ _ body _ _ _ _ _ _ _ => body.getD j (.Pass ⟨0, 0, 0, 0⟩)
  | _ => .Pass ⟨0, 0, 0, 0⟩
noncomputable def defArgs (s : Stmt) : Arguments := match s with
  | .FunctionDef _ a _ _ _ _ _ _ _ _ => a
  | _ => { posonlyargs := [], args := [], vararg := none, kwonlyargs := [], kw_defaults := [], kwarg := none, defaults := [] }
noncomputable def defBody (s : Stmt) : List Stmt := match s with
  | .FunctionDef _ _ b _ _ _ _ _ _ _ => b
  | _ => []
noncomputable def defScope (s : Stmt) : Scope := match s with
  | .FunctionDef _ _ _ _ _ _ sc _ _ _ => sc
  | _ => { kind := .function, names := [], isGenerator := false, isCoroutine := false }

noncomputable abbrev CX0 : CXT := fun _ _ _ _ _ _ => False
noncomputable abbrev E0 : XK := fun _ _ _ => False
theorem pass0 {X : Cx} : Passes CX0 X E0 := fun _ _ _ _ _ _ _ h => h.elim

structure Fun (K : PySem.W.Frag) (x qual : Str) (st : Stmt) (f : Addr) (fd : FuncData) : Prop where
  ex : ∃ (oc : Value) (od : Option Addr) (kV doc pm : Value) (an : Option Addr) (cdv ct : Value) (osl : Array (Option Value)),
    fd = PySem.W.fnOf x qual (defArgs st) (defBody st) (defScope st) .none kV doc pm an cdv ct ∧ K.lookup f = some ⟨oc, od, .func fd, osl⟩ ∧ PySem.W.codeIn K cdv qual = true
  kp : PySem.W.keepIn K (.ref f) = true
section
variable {P : Program} {w : World} {K : PySem.W.Frag} {mg : Str → Option Value} {base : Heap}
theorem Fun.ok {x qual : Str} {st : Stmt} {f : Addr} {fd : FuncData} {N ps : List Str} {k : Nat} {sp : Sp} (F : Fun K x qual st f fd) (S : FnScope N ps (defScope st)) (len : ∀ vs H Q E, sp vs H Q E → vs.length = ps.length)
    (hbody : ∀ (cdv : Value) (A : Around) (outer : List Env) (s : Shared) (H : Hp) (vs : List V) (Q : VK) (E : XK), Room k (A.deeper (envOfC qual (defScope st) s.heap.objs.size f cdv)) → sp vs H Q E →
      ∃ t, PSs (cxOf CX0 P w K mg base N qual (defScope st) f cdv A outer s H E).nox (defBody st) t ∧ t { nx := fun _ H' => Q .non H', rt := Q } (start N vs) H) : FnOk P w K mg base CX0 (k + 1) f fd ps sp := by
  obtain ⟨oc, od, kV, doc, pm, an, cdv, ct, osl, rfl, lk, hcd⟩ := F.ex
  refine fn_of lk hcd S len fun A outer s H vs Q E hr hsp => ?_
  obtain ⟨t, h, q⟩ := hbody cdv A outer s H vs Q E hr hsp
  exact ⟨t, h.nox, q⟩
theorem Fun.binds {x qual : Str} {st : Stmt} {f : Addr} {fd : FuncData} {ps : List Str} (F : Fun K x qual st f fd)
    (h : ∀ (kV doc pm : Value) (an : Option Addr) (cdv ct : Value) (us : List Value), us.length = ps.length → bindArgs (PySem.W.fnOf x qual (defArgs st) (defBody st) (defScope st) .none kV doc pm an cdv ct) ⟨us, []⟩ = pure (ps.zip us)) : Binds K fd ps [] := by
  obtain ⟨oc, od, kV, doc, pm, an, cdv, ct, osl, rfl, lk, hcd⟩ := F.ex
  exact .all (h kV doc pm an cdv ct)
theorem fun_mk {x qual : Str} {st : Stmt} {f : Addr} {oc : Value} {od an : Option Addr} {osl : Array (Option Value)} {kV doc pm cdv ct : Value} (l : K.lookup f = some ⟨oc, od, .func (PySem.W.fnOf x qual (defArgs st) (defBody st) (defScope st) .none kV doc pm an cdv ct), osl⟩)
    (c : PySem.W.codeIn K cdv qual = true) (k : PySem.W.keepIn K (.ref f) = true) : Fun K x qual st f (PySem.W.fnOf x qual (defArgs st) (defBody st) (defScope st) .none kV doc pm an cdv ct) := ⟨⟨oc, od, kV, doc, pm, an, cdv, ct, osl, rfl, l, c⟩, k⟩
end
theorem small1000 {n : Nat} (h : n ≤ 1000) : n < sizeLine := Nat.lt_of_le_of_lt h (by decide)

section
variable {X : Cx}
theorem pv (i : Nat) {x : Str} {pos : Pos} (hN : X.N[i]? = some x := by rfl) (hv : Vis X.env.scope x := by first | exact Or.inl rfl | exact Or.inr (Or.inl rfl) | exact Or.inr (Or.inr rfl)) (hd : (x == ("__debug__" : Str)) = false := by decide)
    (hcd : (x == ("__classdict__" : Str)) = false := by decide) : PE X (.Name x pos) (tVar i) := pe_var hN hv hd hcd
end

theorem iteF {A B : Prop} (h : B) : if false = true then A else B := by
  rw [if_neg Bool.false_ne_true]
  exact h
theorem iteT {A B : Prop} (h : A) : if true = true then A else B := by
  rw [if_pos rfl]
  exact h
theorem ite2 {c A B : Prop} [Decidable c] (h1 : c → A) (h2 : ¬ c → B) : if c then A else B := by
  by_cases h : c
  · rw [if_pos h]
    exact h1 h
  · rw [if_neg h]
    exact h2 h
noncomputable def Same (H H' : Hp) : Prop := ∀ b o, H b = some o → H' b = some o
theorem Same.refl (H : Hp) : Same H H := fun _ _ h => h
theorem Same.trans {H H1 H2 : Hp} (a : Same H H1) (b : Same H1 H2) : Same H H2 := fun c o h => b c o (a c o h)
theorem Same.free {H H' : Hp} (e : Same H H') {l : Addr} (h : H' l = Option.none) : H l = Option.none := by
  cases q : H l with
  | none => rfl
  | some o =>
    rw [e l o q] at h
    cases h
theorem Same.seq {K : PySem.W.Frag} {H H' : Hp} {a : Addr} {xs : List V} (e : Same H H') (h : SqL K H a xs) : SqL K H' a xs := by
  rcases h with (h | ⟨o, h⟩) | h
  · exact .inl (.inl (e _ _ h))
  · exact .inl (.inr ⟨o, e _ _ h⟩)
  · exact .inr h

end L2
set_option maxHeartbeats 4000000
namespace L2
open PySem PySem.Spec PyProof.Rows

noncomputable def Itv (K : PySem.W.Frag) (a : Addr) (n : Nat) : It :=
  ⟨fun i H => i < n ∧ ∃ xs x, SqL K H a xs ∧ xs[n - 1 - i]? = some x, fun i H x H' => H' = H ∧ ∀ xs, SqL K H a xs → xs[n - 1 - i]? = some x, fun i _ => i = n⟩
theorem turn_rev {P : Program} {w : World} {K : PySem.W.Frag} {tg : Expr} (a it : Addr) (n : Nat) : Turn P w K tg (Itv K a n) [it] it (fun i h => i ≤ n ∧ h.IsRevIter it a ((n : Int) - 1 - (i : Int))) where
  mem := by simp
  obj := fun i h st b hb => by
    have e : b = it := by simpa using hb
    subst e
    obtain ⟨o, e, c, d⟩ := st.2
    exact ⟨o, e, fun v z => by rw [d] at z; cases z⟩
  keep := fun i h h' st k => ⟨st.1, st.2.at fun o e => k it (by simp) o e⟩
  item := by
    intro X hP hw hK hc i pins s σ H E I hf st hg
    subst hP hw hK
    obtain ⟨hi, xs, x, hq, hx⟩ := hg
    obtain ⟨its, rv, p, hz⟩ := I.list hq
    obtain ⟨u, hu, ru⟩ := rv.get hx
    obtain ⟨f0, f1, f2, f3, f4, f5⟩ := hf it (by simp)
    have e1 : (n : Int) - 1 - (i : Int) = ((n - 1 - i : Nat) : Int) := by omega
    have e2 : ((n - 1 - i : Nat) : Int) - 1 = (n : Int) - 1 - ((i + 1 : Nat) : Int) := by omega
    have st2 := st.2
    rw [e1] at st2
    refine wpAny_pyNext_rev_item st2 p.isList (x := u) (by simpa using hu) fun h' st' sb => ?_
    rw [e2] at st'
    have I1 : Inv X pins σ H { s with heap := h' } := I.turned (t' := s.toks) (fun b o hb e => (sb.2 b hb).trans e) f0 f1 f3 f4 f5
    obtain ⟨o, e, c, d⟩ := id st'
    exact ⟨u, rfl, go_of (s := { s with heap := h' }) e c d (by decide) ⟨x, H, I1, ru, ⟨rfl, fun ys hy => by rw [I.list_inj hy hq]; exact hx⟩, ⟨hi, st'⟩, fun b hb => (hf b hb).1⟩⟩
  done := by
    intro X hP hw hK hc i pins s σ H E I hf st hg
    subst hP hw hK
    have hg' : i = n := hg
    subst hg'
    obtain ⟨f0, f1, f2, f3, f4, f5⟩ := hf it (by simp)
    have e1 : (i : Int) - 1 - (i : Int) = -1 := by omega
    have st2 := st.2
    rw [e1] at st2
    exact wpAny_pyNext_rev_end (I.ok.hd hc) st2 fun h' eb => ⟨rfl, I.turned (t' := s.toks) (fun b o hb e => eb b o hb e) f0 f1 f3 f4 f5⟩
  self := fun _ _ _ _ _ st h => wpAny_pyIter_revIter st.2 h
section
variable {X : Cx} {tg : Expr}
noncomputable def iRev (K : PySem.W.Frag) (ta : TA) : TI := fun σ H R => ta σ H fun vs H1 => ∃ a xs, vs = [.ref a] ∧ SqL K H1 a xs ∧ R (Itv K a xs.length) H1
theorem pi_rev {a : Expr} {ta : TA} {p pos : Pos} (hg : Gl X "reversed") (hm : X.mg "reversed" = none) (ha : PA X [a] ta) (hs : starEach [a] X.env = [(false, eval a X.env)] := by rfl) : PI X tg (.Call (.Name "reversed" p) [a] [] pos) (iRev X.K ta) := by
  intro pins s σ H R I h
  refine Call_ (ld_blt I hg hm PyProof.Rows.boot_reversed (PyProof.Rows.callWith_type1 (thn (ha pos pins s σ H _ I h) fun us s1 ⟨vs, H1, I1, r1, q1⟩ => ?_) hs rfl))
  obtain ⟨a, xs, rfl, hq, q⟩ := q1
  obtain ⟨u, rfl, ru⟩ := vals1 r1
  cases ru
  obtain ⟨its, rv, p, hz⟩ := I1.list hq
  have hlen : its.toArray.size = xs.length := by rw [List.size_toArray]; exact rv.length.symm
  refine call_reversed_list p.isList ?_
  rw [hlen]
  have hit : (s1.heap.push (revObj a ((xs.length : Int) - 1))).IsRevIter s1.heap.objs.size a ((xs.length : Int) - 1) := ⟨_, Heap.get?_push_size _ rfl, rfl, rfl⟩
  refine wpAny_pyIter_revIter (s := { s1 with heap := s1.heap.push (revObj a ((xs.length : Int) - 1)) }) hit ?_
  refine ⟨s1.heap.objs.size, [s1.heap.objs.size], _, _, H1, rfl, I1.kept (t' := s1.toks) fun b o e => Heap.get?_push_of_some _ e, turn_rev a _ xs.length, ⟨Nat.zero_le _, ?_⟩, fun b hb => ?_, q⟩
  · have e : (xs.length : Int) - 1 - ((0 : Nat) : Int) = (xs.length : Int) - 1 := by omega
    rw [e]
    exact hit
  · have e : b = s1.heap.objs.size := by simpa using hb
    subst e
    exact I1.fpOk (Nat.le_refl _) (I1.hok.fresh (Nat.le_refl _))
end
theorem for_rev {K : PySem.W.Frag} {a : Addr} {xs : List V} {g : TG} {tb : TS} {D : Ends} {σ : St} {H : Hp} (Pv : Nat → St → Hp → Prop) (h0 : Pv 0 σ H) (hl : ∀ i σ H, i ≤ xs.length → Pv i σ H → SqL K H a xs)
    (hs : ∀ i x σ H, i < xs.length → xs[xs.length - 1 - i]? = some x → Pv i σ H → g x σ H fun σ2 H2 => tb { D with nx := Pv (i + 1), ct := Pv (i + 1), bk := D.nx } σ2 H2) (hd : ∀ σ H, Pv xs.length σ H → D.nx σ H) :
    ∃ W : Nat → Nat → St → Hp → Prop, (∃ m, W 0 m σ H) ∧ ∀ i m σ H, W i m σ H →
      ((Itv K a xs.length).stop i H ∧ D.nx σ H) ∨ ((Itv K a xs.length).go i H ∧ ∃ N : St → Hp → Prop, (∀ σ' H', N σ' H' → ∃ m', m' < m ∧ W (i + 1) m' σ' H') ∧ ∀ x H', (Itv K a xs.length).yld i H x H' → g x σ H' fun σ2 H2 => tb { D with nx := N, ct := N, bk := D.nx } σ2 H2) := by
  refine ⟨fun i m σ H => i ≤ xs.length ∧ m = xs.length - i ∧ Pv i σ H, ⟨_, Nat.zero_le _, rfl, h0⟩, fun i m σ H ⟨hi, hm, hp⟩ => ?_⟩
  by_cases e : i = xs.length
  · left
    refine ⟨e, hd σ H ?_⟩
    rw [← e]
    exact hp
  · right
    have hlt : i < xs.length := by omega
    have hx : xs[xs.length - 1 - i]? = some (xs[xs.length - 1 - i]'(by omega)) := List.getElem?_eq_getElem (by omega)
    refine ⟨⟨hlt, xs, _, hl i σ H hi hp, hx⟩, Pv (i + 1), fun σ' H' q => ⟨xs.length - (i + 1), by omega, by omega, rfl, q⟩, fun x H' hy => ?_⟩
    obtain ⟨rfl, hy⟩ := hy
    exact hs i x σ H' hlt (hy xs (hl i σ H' hi hp)) hp
section
variable {X : Cx} {e st : Expr} {te : TE} {ts : TO} {pos p2 : Pos}
end
section
variable {X : Cx}
theorem boot_isin : bootBuiltins "isinstance" = some (.builtin "isinstance") := by decide +kernel
theorem call_isin : CallR X (.builtin "isinstance") (fun xs H Q => ∃ x t T b, xs = [x, .ty T] ∧ TyOf X.K H x t ∧ PySem.W.kitOne X.K t (.type T) = some b ∧ Q (.bl b) H) := by
  intro pins s σ H xs us Q I r h
  obtain ⟨x, t, T, b, rfl, ty, e, q⟩ := h
  obtain ⟨u, w', rfl, ru, rw'⟩ := vals2 r
  cases (show w' = Value.type T from rw')
  exact isinst_ok I ru ty e fun tk => ⟨.bl b, H, I.tok _, rfl, q⟩
theorem kit_int_int (K : PySem.W.Frag) : PySem.W.kitOne K (.type "int") (.type "int") = some true := by rfl
theorem kit_bool_bool (K : PySem.W.Frag) : PySem.W.kitOne K (.type "bool") (.type "bool") = some true := by rfl
theorem kit_int_bool (K : PySem.W.Frag) : PySem.W.kitOne K (.type "int") (.type "bool") = some false := by
  have e1 : PySem.W.kitMeta "bool" = true := by decide +kernel
  have e2 : (fastBuiltinMro "int").map (·.contains (Value.type "bool")) = some false := by decide +kernel
  show (if (Value.type "int" == Value.type "bool") = true then some true else if PySem.W.kitMeta "bool" = true then PySem.W.subIn K (.type "int") (.type "bool") else none) = some false
  rw [if_neg (by decide +kernel), if_pos e1]
  exact e2
end
section
variable {X : Cx}
noncomputable def rEqL (K : PySem.W.Frag) : R2 := fun x y H Q => ∃ (a b : Addr) (ns ms : List Int), x = .ref a ∧ y = .ref b ∧ SqL K H a (ns.map V.int) ∧ SqL K H b (ms.map V.int) ∧ Q (.bl (decide (ns = ms))) H
noncomputable def rNeL (K : PySem.W.Frag) : R2 := fun x y H Q => ∃ (a b : Addr) (ns ms : List Int), x = .ref a ∧ y = .ref b ∧ SqL K H a (ns.map V.int) ∧ SqL K H b (ms.map V.int) ∧ Q (.bl (!decide (ns = ms))) H
theorem op_eqL (hu : X.A.units + 64 < cLine) : OpR X (compareOp .Eq) (rEqL X.K) := by
  intro pins s σ H x y v u Q I rx ry h
  obtain ⟨a, b, ns, ms, rfl, rfl, ha, hb, q⟩ := h
  cases rx
  cases ry
  obtain ⟨its, r, p, hz⟩ := I.list ha
  obtain ⟨its', r', p', hz'⟩ := I.list hb
  exact PySem.W.eq_intsK p.isList (intsAre_of r) p'.isList (intsAre_of r') hu ⟨.bl _, H, I, rfl, q⟩
theorem op_neL (hu : X.A.units + 64 < cLine) : OpR X (compareOp .NotEq) (rNeL X.K) := by
  intro pins s σ H x y v u Q I rx ry h
  obtain ⟨a, b, ns, ms, rfl, rfl, ha, hb, q⟩ := h
  cases rx
  cases ry
  obtain ⟨its, r, p, hz⟩ := I.list ha
  obtain ⟨its', r', p', hz'⟩ := I.list hb
  exact PySem.W.ne_intsK p.isList (intsAre_of r) p'.isList (intsAre_of r') hu ⟨.bl _, H, I, rfl, q⟩
end
end L2
namespace L2
open PySem PySem.Spec PyProof.Rows
noncomputable abbrev iv (ns : List Int) : List V := ns.map V.int
theorem ints_len (ns : List Int) : (iv ns).length = ns.length := List.length_map _
theorem ints_get {ns : List Int} {i : Nat} {x : V} (h : (iv ns)[i]? = some x) : ∃ z, ns[i]? = some z ∧ x = .int z := by
  rw [List.getElem?_map] at h
  cases e : ns[i]? with
  | none => rw [e] at h; cases h
  | some z => rw [e] at h; exact ⟨z, rfl, (Option.some.inj h).symm⟩
theorem get_lt {α : Type} {xs : List α} {i : Nat} {z : α} (h : xs[i]? = some z) : i < xs.length := (List.getElem?_eq_some_iff.mp h).1
theorem drop_at {α : Type} {xs : List α} {i : Nat} {z : α} (h : xs[i]? = some z) : xs.drop i = z :: xs.drop (i + 1) := by
  obtain ⟨hi, e⟩ := List.getElem?_eq_some_iff.mp h
  rw [List.drop_eq_getElem_cons hi, e]
theorem take_at {α : Type} {xs : List α} {i : Nat} {z : α} (h : xs[i]? = some z) : xs.take (i + 1) = xs.take i ++ [z] := by
  rw [List.take_add_one, h]; rfl
theorem atI_ints {ns : List Int} {k : Int} (h0 : 0 ≤ k) (h : k < (ns.length : Int)) : atI (iv ns) k = some (.int (ns.getD k.toNat 0)) := by
  have hk : k.toNat < ns.length := by omega
  have e : k = ((k.toNat : Nat) : Int) := by omega
  have q : atI (iv ns) ((k.toNat : Nat) : Int) = some (.int (ns.getD k.toNat 0)) := by
    refine atI_nat ?_
    rw [List.getElem?_map, List.getElem?_eq_getElem hk, List.getD_eq_getElem?_getD, List.getElem?_eq_getElem hk]
    rfl
  rw [← e] at q
  exact q
theorem atI_end {α : Type} {xs : List α} {v : α} (h : xs.getLast? = some v) : atI xs (-1) = some v := by
  cases xs with
  | nil => cases h
  | cons x r =>
    unfold atI ixN
    rw [if_neg (by decide), if_pos (by rw [List.length_cons]; omega)]
    show (x :: r)[((-1 : Int) + ((x :: r).length : Int)).toNat]? = some v
    have e : ((-1 : Int) + ((x :: r).length : Int)).toNat = (x :: r).length - 1 := by rw [List.length_cons]; omega
    rw [e, ← List.getLast?_eq_getElem?]
    exact h
theorem last_ints {ns : List Int} {z : Int} (h : ns.getLast? = some z) : (iv ns).getLast? = some (.int z) := by
  rw [List.getLast?_map, h]; rfl
theorem cut_to (xs : List V) (k : Nat) : cutV xs none (some (k : Int)) = xs.take k := by
  unfold cutV
  rw [HT.sIx_nat]
  show (xs.drop 0).take (min k xs.length - 0) = xs.take k
  rw [List.drop_zero, Nat.sub_zero, List.take_eq_take_iff]
  omega
theorem cut_from (xs : List V) (k : Nat) : cutV xs (some (k : Int)) none = xs.drop k := by
  unfold cutV
  rw [HT.sIx_nat]
  show (xs.drop (min k xs.length)).take (xs.length - min k xs.length) = xs.drop k
  by_cases h : k ≤ xs.length
  · rw [Nat.min_eq_left h]
    exact List.take_of_length_le (by rw [List.length_drop]; omega)
  · rw [Nat.min_eq_right (by omega), List.drop_eq_nil_of_le (Nat.le_refl _), List.drop_eq_nil_of_le (by omega)]
    simp
theorem cut_mid (xs : List V) (a b : Nat) (h : a ≤ b) : cutV xs (some (a : Int)) (some (b : Int)) = (xs.drop a).take (b - a) := by
  unfold cutV
  rw [HT.sIx_nat, HT.sIx_nat]
  by_cases q : a ≤ xs.length
  · rw [Nat.min_eq_left q, List.take_eq_take_iff, List.length_drop]
    omega
  · rw [List.drop_eq_nil_of_le (show xs.length ≤ min a xs.length by omega), List.drop_eq_nil_of_le (show xs.length ≤ a by omega)]
    simp
theorem flat_rep (k : Nat) (z : Int) : (List.replicate k [V.int z]).flatten = iv (List.replicate k z) := by
  induction k with
  | zero => rfl
  | succ k ih => rw [List.replicate_succ, List.flatten_cons, ih, List.replicate_succ]; rfl
theorem ints_take (ns : List Int) (k : Nat) : (iv ns).take k = iv (ns.take k) := List.map_take.symm
theorem ints_drop (ns : List Int) (k : Nat) : (iv ns).drop k = iv (ns.drop k) := List.map_drop.symm
theorem ints_app (ns ms : List Int) : iv ns ++ iv ms = iv (ns ++ ms) := List.map_append.symm
theorem ints_dropLast (ns : List Int) : (iv ns).dropLast = iv ns.dropLast := by rw [List.dropLast_eq_take, List.dropLast_eq_take, ints_take, ints_len]
theorem same_new {H : Hp} {p : Addr} (h : H p = none) (o : HO) : Same H (upd H p o) := fun b u q => by rw [upd_ne (ne_of_none q h)]; exact q
theorem small {n : Nat} (h : n ≤ 1000) : n ≤ sizeLine := Nat.le_of_lt (small1000 h)
theorem bigL {n : Nat} (h : n ≤ 100000) : n < sizeLine := by rw [sizeLine_eq]; omega
theorem big {n : Nat} (h : n ≤ 100000) : n ≤ sizeLine := Nat.le_of_lt (bigL h)
noncomputable def But (l : Addr) (H H' : Hp) : Prop := ∀ b o, b ≠ l → H b = some o → H' b = some o
theorem But.refl (l : Addr) (H : Hp) : But l H H := fun _ _ _ h => h
theorem But.trans {l : Addr} {H H1 H2 : Hp} (a : But l H H1) (b : But l H1 H2) : But l H H2 := fun c o n h => b c o n (a c o n h)
theorem But.upd (l : Addr) (H : Hp) (o : HO) : But l H (upd H l o) := fun b u n q => by rw [upd_ne n]; exact q
theorem Same.but {l : Addr} {H H' : Hp} (a : Same H H') : But l H H' := fun b o _ h => a b o h
theorem But.same {l : Addr} {H H' : Hp} (a : But l H H') (h : H l = Option.none) : Same H H' := fun b o q => a b o (ne_of_none q h) q
theorem But.seq {K : PySem.W.Frag} {l a : Addr} {H H' : Hp} {xs : List V} (e : But l H H') (n : a ≠ l) (h : SqL K H a xs) : SqL K H' a xs := by
  rcases h with h | h
  · rcases h with h | ⟨o, h⟩
    · exact .inl (.inl (e a _ n h))
    · exact .inl (.inr ⟨o, e a _ n h⟩)
  · exact .inr h
theorem decT {c : Prop} [Decidable c] (h : c) : decide c = true := decide_eq_true h
theorem decF {c : Prop} [Decidable c] (h : ¬ c) : decide c = false := decide_eq_false h
theorem notT {b : Bool} (e : (!b) = true) : b = false := by cases b <;> simp_all
theorem notF {b : Bool} (e : (!b) = false) : b = true := by cases b <;> simp_all
theorem iteC {c : Bool} {A B : Prop} (e : c = true) (h : A) : if c = true then A else B := by rw [if_pos e]; exact h
theorem iteD {c : Bool} {A B : Prop} (e : c = false) (h : B) : if c = true then A else B := by rw [if_neg (by rw [e]; decide)]; exact h
noncomputable def PuE (t : TE) (σ : St) (H : Hp) (v : V) : Prop := ∀ Q : VK, Q v H → t σ H Q
noncomputable def PuT (t : TT) (σ : St) (H : Hp) (b : Bool) : Prop := ∀ Q : Bool → Hp → Prop, Q b H → t σ H Q
noncomputable def PuA (t : TA) (σ : St) (H : Hp) (vs : List V) : Prop := ∀ Q : List V → Hp → Prop, Q vs H → t σ H Q
section
variable {σ : St} {H : Hp} {K : PySem.W.Frag}
theorem pu_var {i : Nat} {v : V} (h : σ[i]? = some (some v)) : PuE (tVar i) σ H v := fun _ q => ⟨v, h, q⟩
theorem pu_c {v : V} : PuE (tC v) σ H v := fun _ q => q
theorem pu_I0 {ta tb : TE} {g : Int → Int → V} {i j : Int} (ha : PuE ta σ H (.int i)) (hb : PuE tb σ H (.int j)) : PuE (tOp (rI0 g) ta tb) σ H (g i j) := fun _ q => ha _ (hb _ ⟨i, j, rfl, rfl, q⟩)
theorem pu_I {ta tb : TE} {C : Int → Int → Prop} {g : Int → Int → V} {i j : Int} (ha : PuE ta σ H (.int i)) (hb : PuE tb σ H (.int j)) (hc : C i j) : PuE (tOp (rI C g) ta tb) σ H (g i j) := fun _ q => ha _ (hb _ ⟨i, j, rfl, rfl, hc, q⟩)
theorem pu_U {ta : TE} {g : Int → V} {i : Int} (ha : PuE ta σ H (.int i)) : PuE (tUn (rU g) ta) σ H (g i) := fun _ q => ha _ ⟨i, rfl, q⟩
theorem dec_v {i j : Int} : decide (V.int i = V.int j) = decide (i = j) := by
  by_cases h : i = j
  · rw [h, decT rfl, decT rfl]
  · rw [decF h, decF (fun e => h (by injection e))]
theorem dec_b {a b : Bool} : decide (V.bl a = V.bl b) = decide (a = b) := by cases a <;> cases b <;> decide
theorem pu_eqI {ta tb : TE} {i j : Int} (ha : PuE ta σ H (.int i)) (hb : PuE tb σ H (.int j)) : PuE (tOp rEq ta tb) σ H (.bl (decide (i = j))) := fun _ q => ha _ (hb _ ⟨rfl, by rw [dec_v]; exact q⟩)
theorem pu_neI {ta tb : TE} {i j : Int} (ha : PuE ta σ H (.int i)) (hb : PuE tb σ H (.int j)) : PuE (tOp rNe ta tb) σ H (.bl (!decide (i = j))) := fun _ q => ha _ (hb _ ⟨rfl, by rw [dec_v]; exact q⟩)
theorem pu_eqB {ta tb : TE} {i j : Bool} (ha : PuE ta σ H (.bl i)) (hb : PuE tb σ H (.bl j)) : PuE (tOp rEq ta tb) σ H (.bl (decide (i = j))) := fun _ q => ha _ (hb _ ⟨rfl, by rw [dec_b]; exact q⟩)
theorem pu_neB {ta tb : TE} {i j : Bool} (ha : PuE ta σ H (.bl i)) (hb : PuE tb σ H (.bl j)) : PuE (tOp rNe ta tb) σ H (.bl (!decide (i = j))) := fun _ q => ha _ (hb _ ⟨rfl, by rw [dec_b]; exact q⟩)
theorem pu_and {ta tb : TE} {a b : Bool} (ha : PuE ta σ H (.bl a)) (hb : a = true → PuE tb σ H (.bl b)) : PuE (tAndV ta tb) σ H (.bl (a && b)) := fun Q q => ha _ ⟨a, rfl, by
  cases a
  · exact iteF q
  · exact iteT (hb rfl _ q)⟩
theorem pu_or {ta tb : TE} {a b : Bool} (ha : PuE ta σ H (.bl a)) (hb : a = false → PuE tb σ H (.bl b)) : PuE (tOrV ta tb) σ H (.bl (a || b)) := fun Q q => ha _ ⟨a, rfl, by
  cases a
  · exact iteF (hb rfl _ q)
  · exact iteT q⟩
theorem pu_not {ta : TE} {a : Bool} (ha : PuE ta σ H (.bl a)) : PuE (tNotV ta) σ H (.bl (!a)) := fun _ q => ha _ ⟨a, rfl, q⟩
theorem pu_chain {g g' : Int → Int → Bool} {ta tb tc : TE} {i j k : Int} (ha : PuE ta σ H (.int i)) (hb : PuE tb σ H (.int j)) (hc : PuE tc σ H (.int k)) :
    PuE (tChain (rI0 fun i j => .bl (g i j)) (rI0 fun i j => .bl (g' i j)) ta tb tc) σ H (.bl (g i j && g' j k)) := fun Q q => ha _ (hb _ ⟨i, j, rfl, rfl, g i j, rfl, by
  cases e : g i j
  · rw [e] at q; exact iteF q
  · rw [e] at q; exact iteT (hc _ ⟨j, k, rfl, rfl, q⟩)⟩)
theorem pu_int {ta : TE} {b : Bool} (ha : PuE ta σ H (.bl b)) : PuE (tCB (fun xs H Q => (∃ i, xs = [.int i] ∧ Q (.int i) H) ∨ ∃ k, xs = [.bl k] ∧ Q (.int (if k then 1 else 0)) H) (tCons ta tNil)) σ H (.int (if b then 1 else 0)) := fun _ q => ha _ (Or.inr ⟨b, rfl, q⟩)
theorem pu_len {ta : TE} {p : Addr} {ys : List V} (ha : PuE ta σ H (.ref p)) (h : SqL K H p ys) : PuE (tCB (fun xs H Q => ∃ p ys, xs = [.ref p] ∧ (SqL K H p ys ∨ SqT K H p ys) ∧ Q (.int ys.length) H) (tCons ta tNil)) σ H (.int ys.length) := fun _ q => ha _ ⟨p, ys, rfl, .inl h, q⟩
theorem pu_ix {ta tb : TE} {p : Addr} {xs : List V} {i : Int} {v : V} (ha : PuE ta σ H (.ref p)) (hb : PuE tb σ H (.int i)) (h : SqL K H p xs) (hv : atI xs i = some v) : PuE (tOp (rIxL K) ta tb) σ H v := fun _ q => ha _ (hb _ ⟨p, xs, i, v, rfl, rfl, h, hv, q⟩)
theorem pu_nil : PuA tNil σ H [] := fun _ q => q
theorem pu_cons {te : TE} {t : TA} {v : V} {vs : List V} (h : PuE te σ H v) (hr : PuA t σ H vs) : PuA (tCons te t) σ H (v :: vs) := fun _ q => h _ (hr _ q)
theorem pu_call {sp : Sp} {E : XK} {t : TA} {vs : List V} {v : V} (h : PuA t σ H vs) (hs : ∀ Q : VK, Q v H → sp (vs ++ []) H Q E) : PuE (tCall sp [] E t) σ H v := fun _ q => h _ (hs _ q)
theorem pu_eqL {ta tb : TE} {a b : Addr} {ns ms : List Int} (ha : PuE ta σ H (.ref a)) (hb : PuE tb σ H (.ref b)) (h1 : SqL K H a (iv ns)) (h2 : SqL K H b (iv ms)) : PuE (tOp (rEqL K) ta tb) σ H (.bl (decide (ns = ms))) := fun _ q => ha _ (hb _ ⟨a, b, ns, ms, rfl, rfl, h1, h2, q⟩)
theorem pu_neL {ta tb : TE} {a b : Addr} {ns ms : List Int} (ha : PuE ta σ H (.ref a)) (hb : PuE tb σ H (.ref b)) (h1 : SqL K H a (iv ns)) (h2 : SqL K H b (iv ms)) : PuE (tOp (rNeL K) ta tb) σ H (.bl (!decide (ns = ms))) := fun _ q => ha _ (hb _ ⟨a, b, ns, ms, rfl, rfl, h1, h2, q⟩)
theorem pu_test {t : TE} {b : Bool} (h : PuE t σ H (.bl b)) : PuT (tTest t) σ H b := fun _ q => h _ ⟨b, rfl, q⟩
theorem pu_tB {t : TE} {b : Bool} (h : PuE t σ H (.bl b)) : PuT (tB t) σ H b := fun _ q => h _ ⟨b, rfl, q⟩
theorem pt_and' {t u : TT} {a b : Bool} (ha : PuT t σ H a) (hb : a = true → PuT u σ H b) : PuT (tAnd t u) σ H (a && b) := fun Q q => ha _ (by
  cases a
  · exact iteF q
  · exact iteT (hb rfl _ q))
theorem pt_or' {t u : TT} {a b : Bool} (ha : PuT t σ H a) (hb : a = false → PuT u σ H b) : PuT (tOr t u) σ H (a || b) := fun Q q => ha _ (by
  cases a
  · exact iteF (hb rfl _ q)
  · exact iteT q)
theorem pt_not' {t : TT} {a : Bool} (ha : PuT t σ H a) : PuT (tNot t) σ H (!a) := fun _ q => ha _ q
variable {D : Ends}
theorem sq {t u : TS} (h : t { D with nx := u D } σ H) : tSeq t u D σ H := h
theorem sq_mk {t u : TS} {n b c : St → Hp → Prop} {r : VK} (h : t ⟨u ⟨n, r, b, c⟩, r, b, c⟩ σ H) : tSeq t u ⟨n, r, b, c⟩ σ H := h
theorem nx_mk {n b c : St → Hp → Prop} {r : VK} (h : n σ H) : tNext ⟨n, r, b, c⟩ σ H := h
theorem un_ (h : tNext D σ H) : D.nx σ H := h
theorem gn2 {i : Nat} {v : V} {R : St → Hp → Prop} (h : R (σ.set i (some v)) H) : gName i v σ H R := h
theorem gn_ {i : Nat} {v : V} (h : tNext D (σ.set i (some v)) H) : gName i v σ H D.nx := h
theorem st_set {te : TE} {i : Nat} {v : V} (hv : PuE te σ H v) (h : tNext D (σ.set i (some v)) H) : tAsg te (gName i) D σ H := hv _ h
theorem st_if {tc : TT} {t u : TS} {b : Bool} (hc : PuT tc σ H b) (h1 : b = true → t D σ H) (h2 : b = false → u D σ H) : tIfS tc t u D σ H := hc _ (by
  cases b
  · exact iteF (h2 rfl)
  · exact iteT (h1 rfl))
theorem st_ret {te : TE} {v : V} (hv : PuE te σ H v) (h : D.rt v H) : tRet te D σ H := hv _ h
theorem st_drop {te : TE} {v : V} (hv : PuE te σ H v) (h : tNext D σ H) : tDrop te D σ H := hv _ h
theorem st_ifset {tc : TT} {te : TE} {i : Nat} {b : Bool} {v w : Int} (hc : PuT tc σ H b) (hv : b = true → PuE te σ H (.int v)) (h0 : σ[i]? = some (some (.int w))) (h : tNext D (σ.set i (some (.int (if b then v else w)))) H) : tIfS tc (tAsg te (gName i)) tNext D σ H := by
  refine st_if hc (fun e => ?_) (fun e => ?_)
  · subst e
    exact hv rfl _ h
  · subst e
    have e2 : σ.set i (some (.int w)) = σ := by
      obtain ⟨hi, e3⟩ := List.getElem?_eq_some_iff.mp h0
      have := List.set_getElem_self hi
      rw [e3] at this
      exact this
    have h' : D.nx (σ.set i (some (.int w))) H := h
    rw [e2] at h'
    exact h'
theorem st_lst {ta : TA} {i : Nat} {vs : List V} (ha : PuA ta σ H vs) (hz : vs.length ≤ 1000) (h : ∀ p, H p = none → tNext D (σ.set i (some (.ref p))) (upd H p (.lst vs))) : tAsg (tLst ta) (gName i) D σ H := ha _ ⟨small hz, fun p hp => h p hp⟩
theorem st_for {tl : TE} {i : Nat} {tb : TS} {a : Addr} {xs : List V} (hv : PuE tl σ H (.ref a)) (hS : SqL K H a xs) (Pv : Nat → St → Hp → Prop) (h0 : Pv 0 σ H) (hl : ∀ j σ H, j ≤ xs.length → Pv j σ H → SqL K H a xs)
    (hs : ∀ j x σ H, xs[j]? = some x → Pv j σ H → tb { D with nx := Pv (j + 1), ct := Pv (j + 1), bk := D.nx } (σ.set i (some x)) H) (hd : ∀ σ H, Pv xs.length σ H → tNext D σ H) : tFor (iList K tl) (gName i) tb D σ H :=
  hv _ ⟨a, rfl, ⟨xs, hS⟩, for_list (g := gName i) Pv h0 hl hs hd⟩
theorem st_for_rev {ta : TA} {i : Nat} {tb : TS} {a : Addr} {xs : List V} (hv : PuA ta σ H [.ref a]) (hS : SqL K H a xs) (Pv : Nat → St → Hp → Prop) (h0 : Pv 0 σ H) (hl : ∀ j σ H, j ≤ xs.length → Pv j σ H → SqL K H a xs)
    (hs : ∀ j x σ H, j < xs.length → xs[xs.length - 1 - j]? = some x → Pv j σ H → tb { D with nx := Pv (j + 1), ct := Pv (j + 1), bk := D.nx } (σ.set i (some x)) H) (hd : ∀ σ H, Pv xs.length σ H → tNext D σ H) : tFor (iRev K ta) (gName i) tb D σ H :=
  hv _ ⟨a, xs, rfl, hS, for_rev (g := gName i) Pv h0 hl hs hd⟩
theorem st_range {ta : TA} {i : Nat} {tb : TS} {j : Int} (hv : PuA ta σ H [.int j]) (h1 : -(2 ^ 62) ≤ j) (h2 : j < 2 ^ 62) (Pv : Nat → St → Hp → Prop) (h0 : Pv 0 σ H)
    (hs : ∀ k σ H, k < j.toNat → Pv k σ H → tb { D with nx := Pv (k + 1), ct := Pv (k + 1), bk := D.nx } (σ.set i (some (.int (0 + (k : Nat))))) H) (hd : ∀ σ H, Pv j.toNat σ H → tNext D σ H) : tFor (iRng1 ta) (gName i) tb D σ H :=
  hv _ ⟨j, rfl, h1, h2, for_range (g := gName i) Pv h0 hs hd⟩
theorem st_while {tc : TT} {tb : TS} (Pv : Nat → St → Hp → Prop) (h0 : ∃ m, Pv m σ H)
    (hs : ∀ m σ H, Pv m σ H → ∃ b, PuT tc σ H b ∧ (b = true → ∃ N : St → Hp → Prop, (∀ σ' H', N σ' H' → ∃ m', m' < m ∧ Pv m' σ' H') ∧ tb { D with nx := N, ct := N, bk := D.nx } σ H) ∧ (b = false → tNext D σ H)) : tWhile tc tb D σ H :=
  ⟨Pv, h0, fun m σ H p => by
    obtain ⟨b, hb, h1, h2⟩ := hs m σ H p
    refine hb _ ?_
    cases b
    · exact iteF (h2 rfl)
    · exact iteT (h1 rfl)⟩
theorem st_new {i : Nat} (h : ∀ p, H p = none → tNext D (σ.set i (some (.ref p))) (upd H p (.lst []))) : tAsg (tLst tNil) (gName i) D σ H := ⟨Nat.zero_le _, fun p hp => h p hp⟩
theorem st_copy {te : TE} {i : Nat} {a : Addr} {ys : List V} (hv : PuE te σ H (.ref a)) (hS : SqL K H a ys) (h : ∀ p, H p = none → tNext D (σ.set i (some (.ref p))) (upd H p (.lst ys))) :
    tAsg (tCB (fun xs H Q => ∃ p ys, xs = [.ref p] ∧ (SqL K H p ys ∨ SqT K H p ys) ∧ ∀ l, H l = none → Q (.ref l) (upd H l (.lst ys))) (tCons te tNil)) (gName i) D σ H := hv _ ⟨a, ys, rfl, .inl hS, fun p hp => h p hp⟩
theorem st_append {to te : TE} {l : Addr} {xs : List V} {y : V} (ho : PuE to σ H (.ref l)) (he : PuE te σ H y) (hl : H l = some (.lst xs)) (hz : xs.length < 100000) (h : tNext D σ (upd H l (.lst (xs ++ [y])))) : tDrop (tBM K "list" rAppend to (tCons te tNil)) D σ H :=
  ho _ ⟨.inl ⟨rfl, _, SqL.of hl⟩, he _ ⟨l, xs, y, rfl, rfl, hl, bigL (Nat.le_of_lt hz), h⟩⟩
theorem st_pop {to : TE} {l : Addr} {xs : List V} {y : V} (ho : PuE to σ H (.ref l)) (hl : H l = some (.lst xs)) (hy : xs[xs.length - 1]? = some y) (h : tNext D σ (upd H l (.lst xs.dropLast))) : tDrop (tBM0 K "list" rPop to) D σ H :=
  ho _ ⟨.inl ⟨rfl, _, SqL.of hl⟩, l, xs, y, rfl, rfl, hl, hy, h⟩
theorem st_clear {to : TE} {l : Addr} {xs : List V} (ho : PuE to σ H (.ref l)) (hl : H l = some (.lst xs)) (h : tNext D σ (upd H l (.lst []))) : tDrop (tBM0 K "list" rClear to) D σ H :=
  ho _ ⟨.inl ⟨rfl, _, SqL.of hl⟩, l, xs, rfl, rfl, hl, h⟩
end
theorem same_upd {H H1 : Hp} {l : Addr} (h : H l = Option.none) (s : Same H H1) (o : HO) : Same H (upd H1 l o) := fun b u e => by rw [upd_ne (ne_of_none e h)]; exact s b u e
noncomputable def LsE (t : TE) (σ : St) (H : Hp) (fs : List Int) : Prop := ∀ H0, Same H H0 → ∀ Q : VK, (∀ p H', Same H0 H' → H' p = some (.lst (iv fs)) → Q (.ref p) H') → t σ H0 Q
noncomputable def MkL (t : TE) (σ : St) (H : Hp) (fs : List Int) : Prop := ∀ H0, Same H H0 → ∀ Q : VK, (∀ p H', H0 p = Option.none → Same H0 H' → H' p = some (.lst (iv fs)) → Q (.ref p) H') → t σ H0 Q
section
variable {σ : St} {H : Hp} {K : PySem.W.Frag} {D : Ends}
theorem MkL.ls {t : TE} {fs : List Int} (h : MkL t σ H fs) : LsE t σ H fs := fun H0 s Q q => h H0 s Q fun p H' _ s' e => q p H' s' e
theorem ls_var {i : Nat} {p : Addr} {fs : List Int} (h : σ[i]? = some (some (.ref p))) (hp : H p = some (.lst (iv fs))) : LsE (tVar i) σ H fs := fun H0 s Q q => ⟨.ref p, h, q p H0 (Same.refl _) (s _ _ hp)⟩
theorem mk_lst {ta : TA} {fs : List Int} (ha : ∀ H0, PuA ta σ H0 (iv fs)) (hz : fs.length ≤ 100000) : MkL (tLst ta) σ H fs := fun H0 s Q q => ha H0 _ ⟨big (by rw [ints_len]; exact hz), fun p hp => q p _ hp (same_new hp _) upd_same⟩
theorem mk_cat {ta tb : TE} {fs gs : List Int} (ha : LsE ta σ H fs) (hb : LsE tb σ H gs) (hz : fs.length + gs.length ≤ 100000) : MkL (tOp rCat ta tb) σ H (fs ++ gs) := fun H0 s Q q =>
  ha H0 s _ fun a H1 s1 h1 => hb H1 (s.trans s1) _ fun b H2 s2 h2 => ⟨a, b, _, _, rfl, rfl, s2 _ _ h1, h2, big (by rw [ints_len, ints_len]; exact hz), fun p hp =>
    q p _ ((s1.trans s2).free hp) ((s1.trans s2).trans (same_new hp _)) (by rw [upd_same, ints_app])⟩
theorem mk_rep {ta tb : TE} {c k : Int} (ha : LsE ta σ H [c]) (hb : ∀ H0, PuE tb σ H0 (.int k)) (h0 : -1000 ≤ k) (h1 : k ≤ 100000) : MkL (tOp rRep ta tb) σ H (List.replicate k.toNat c) := fun H0 s Q q =>
  ha H0 s _ fun a H1 s1 ha1 => hb H1 _ ⟨a, k, iv [c], rfl, rfl, ha1, by omega, by omega, big (by show 1 * k.toNat ≤ 100000; omega), fun p hp =>
    q p _ (s1.free hp) (s1.trans (same_new hp _)) (by rw [upd_same]; exact congrArg (fun l => some (HO.lst l)) (flat_rep k.toNat c))⟩
theorem mk_sl {te : TE} {tl th : TO} {lo hi : Option Int} {fs gs : List Int} (ha : LsE te σ H fs) (hl : ∀ H0 (Q : Option Int → Hp → Prop), Q lo H0 → tl σ H0 Q) (hh : ∀ H0 (Q : Option Int → Hp → Prop), Q hi H0 → th σ H0 Q) (e : cutV (iv fs) lo hi = iv gs) :
    MkL (tSl (rSlL K) te tl th) σ H gs := fun H0 s Q q => ha H0 s _ fun a H1 s1 h1 => hl _ _ (hh _ _ ⟨a, iv fs, rfl, SqL.of h1, fun p hp => q p _ (s1.free hp) (s1.trans (same_new hp _)) (by rw [upd_same, e])⟩)
noncomputable def IntE (t : TE) (σ : St) (H : Hp) (v : Int) : Prop := ∀ H0, Same H H0 → ∀ Q : VK, (∀ H', Same H0 H' → Q (.int v) H') → t σ H0 Q
theorem po_c0 {H0 : Hp} {Q : Option Int → Hp → Prop} (q : Q none H0) : tNoPart σ H0 Q := q
theorem po_c1 {te : TE} {k : Int} (h : ∀ H0, PuE te σ H0 (.int k)) : ∀ H0 (Q : Option Int → Hp → Prop), Q (some k) H0 → tPart te σ H0 Q := fun H0 Q q => h H0 _ ⟨k, rfl, q⟩
theorem st_mk {te : TE} {i : Nat} {fs : List Int} (h : MkL te σ H fs) (q : ∀ p H', H p = Option.none → Same H H' → H' p = some (.lst (iv fs)) → tNext D (σ.set i (some (.ref p))) H') : tAsg te (gName i) D σ H := h H (Same.refl _) _ q
theorem st_retmk {te : TE} {fs : List Int} (h : MkL te σ H fs) (q : ∀ p H', H p = Option.none → Same H H' → H' p = some (.lst (iv fs)) → D.rt (.ref p) H') : tRet te D σ H := h H (Same.refl _) _ q
theorem IntE.of {te : TE} {v : Int} (h : ∀ H0, Same H H0 → PuE te σ H0 (.int v)) : IntE te σ H v := fun H0 s Q q => h H0 s _ (q H0 (Same.refl _))
end
end L2
namespace L2
open PySem PySem.Spec PyProof.Rows

theorem comp_loop {M : Program} {w : World} {A : Around} {R : Result → Shared → Prop} {s : Shared} {elt target iter : Expr} {scope : Scope} {pos : Pos} {it acc : Value} {env : Env} (I : Nat → Shared → Prop)
    (turn : ∀ n s, I n s → wpAny (model M w) A (pyNext it) (fun r s₁ => match r with
      | none => R (.ok .next) s₁
      | some v => wpAny (model M w) A (letOwnedTupleGo target it v) (fun _ s₂ => wpAny (model M w) A (assign target env v) (fun _ s₃ => wpAny (model M w) A (eval elt env) (fun x s₄ =>
          wpAny (model M w) A (call (.builtin "list.append") [acc, x]) (fun _ s₅ => ∃ m, m < n ∧ I m s₅) (notedBy (model M w) A env fun e s' => R (.error e) s') s₄)
          (notedBy (model M w) A env fun e s' => R (.error e) s') s₃) (notedBy (model M w) A env fun e s' => R (.error e) s') s₂) (notedBy (model M w) A env fun e s' => R (.error e) s') s₁)
      (notedBy (model M w) A env fun e s' => R (.error e) s') s)
    (n : Nat) (h : I n s) : codeAny (model M w) A (.compLoop (.ListComp elt [⟨target, iter, [], 0⟩] scope pos) 0 it acc env) R s := by
  refine codeAny_loop rfl I (fun n s hI => ?_) n h
  show wpAny _ A ((compTurn (.ListComp elt [⟨target, iter, [], 0⟩] scope pos) 0 it acc env).onRaise (fun x => do noteFrame x env; theTreesLotGoes x)) _ _ s
  refine wpAny_noted ?_
  rw [compTurn_list1]
  refine wpAny_bind (wpAny_standAt (wpAny_bind (wpAny_mono (turn n s hI) (fun r s₁ h₁ => ?_) fun _ _ h' => h')))
  cases r with
  | none => exact wpAny_pure h₁
  | some v =>
    refine wpAny_bind (wpAny_mono h₁ (fun _ s₂ h₂ => wpAny_bind (wpAny_mono h₂ (fun _ s₃ h₃ => ?_) fun _ _ h' => h')) fun _ _ h' => h')
    exact wpAny_bind (wpAny_bind (wpAny_mono h₃ (fun x s₄ h₄ => wpAny_bind (wpAny_mono h₄ (fun _ s₅ h₅ => wpAny_pure (wpAny_pure ⟨rfl, h₅⟩)) fun _ _ h' => h')) fun _ _ h' => h'))

section
variable {X : Cx}
end
end L2
namespace L2
open PySem PySem.Spec PyProof.Rows
section
variable {X : Cx}
end
noncomputable def Itn (K : PySem.W.Frag) (a : Addr) : It :=
  ⟨fun i H => ∃ xs x, SqL K H a xs ∧ xs[i]? = some x, fun i H x H' => ∃ T v, H T = none ∧ x = .ref T ∧ H' = upd H T (.tup [.int (i : Nat), v]) ∧ ∀ xs, SqL K H a xs → xs[i]? = some v, fun i H => ∃ xs, SqL K H a xs ∧ xs.length ≤ i⟩
theorem turn_enum {P : Program} {w : World} {K : PySem.W.Frag} {es : List Expr} {k : Nat} {pos : Pos} (a e it : Addr) (hne : e ≠ it) :
    Turn P w K (.Tuple es k pos) (Itn K a) [e, it] e (fun i h => (∃ old, IsEnum h e it (i : Nat) old) ∧ h.IsListIter it a i) where
  mem := by simp
  obj := fun i h st b hb => by
    rcases List.mem_cons.mp hb with hb | hb
    · subst hb
      obtain ⟨old, he⟩ := st.1
      exact ⟨_, he, fun v z => by cases z⟩
    · have eb : b = it := by simpa using hb
      subst eb
      obtain ⟨o, eo, c, d⟩ := st.2
      exact ⟨o, eo, fun v z => by rw [d] at z; cases z⟩
  keep := fun i h h' st kp => ⟨let ⟨old, he⟩ := st.1; ⟨old, kp e (by simp) _ he⟩, st.2.at fun o eo => kp it (by simp) o eo⟩
  item := by
    intro X hP hw hK hc i pins s σ H E I hf st hg
    subst hP hw hK
    obtain ⟨xs, x, hq, hx⟩ := hg
    obtain ⟨its, rv, p, hz⟩ := I.list hq
    obtain ⟨u, hu, ru⟩ := rv.get hx
    obtain ⟨old, he⟩ := st.1
    obtain ⟨f0, f1, f2, f3, f4, f5⟩ := hf e (by simp)
    obtain ⟨g0, g1, g2, g3, g4, g5⟩ := hf it (by simp)
    refine wpAny_pyNext_enum_item he st.2 p.isList (x := u) (by simpa using hu) hne fun h1 ho1 it1 ht1 sz1 k1 => ?_
    refine ⟨_, rfl, ?_⟩
    refine wpAny_letOwnedTupleGo_enum (s := { s with heap := h1, toks := s.toks + 1 }) ho1 fun h2 he2 sb2 => ?_
    have hnew : H s.heap.objs.size = none := I.hok.fresh (Nat.le_refl _)
    have hlt : ∀ b o, s.heap.get? b = some o → b ≠ s.heap.objs.size := fun b o eb => Nat.ne_of_lt (Heap.lt_size eb)
    have eT : e ≠ s.heap.objs.size := hlt e _ he
    have iT : it ≠ s.heap.objs.size := by obtain ⟨o, eo, _⟩ := st.2; exact hlt it o eo
    have kall : ∀ b o, b ≠ e → b ≠ it → s.heap.get? b = some o → h2.get? b = some o := fun b o hb1 hb2 eb => (sb2.2 b hb1).trans (k1 b o hb1 hb2 eb)
    have hT : h2.get? s.heap.objs.size = some { cls := .type "tuple", data := .seq #[.int (i : Nat) s.toks, u] } := (sb2.2 _ (Ne.symm eT)).trans ht1
    have hok2 : HOk X.prog X.w (upd H s.heap.objs.size (.tup [.int (i : Nat), x])) h2 := by
      have base : ∀ b o, H b = some o → ObjOk X.prog X.w (upd H s.heap.objs.size (.tup [.int (i : Nat), x])) h2 b o := fun b o eb => by
        refine (I.hok b o eb).stay (fun c v hcv ev => kall c v ?_ ?_ ev) (fun c ec => ?_) (fun c ys ec => ?_)
        · rintro rfl
          rcases hcv with rfl | z
          · rw [f0] at eb; cases eb
          · rw [f0] at z; cases z
        · rintro rfl
          rcases hcv with rfl | z
          · rw [g0] at eb; cases eb
          · rw [g0] at z; cases z
        · rw [upd_ne (ne_of_none ec hnew)]; exact ec
        · rw [upd_ne (ne_of_none ec hnew)]; exact ec
      intro b o eb
      by_cases z : b = s.heap.objs.size
      · subst z
        rw [upd_same] at eb
        cases eb
        exact ⟨by show 2 ≤ sizeLine; decide, [.int (i : Nat) s.toks, u], .cons ⟨_, rfl⟩ (.cons ru .nil), ⟨_, hT, rfl, _, rfl⟩⟩
      · rw [upd_ne z] at eb
        exact base b o eb
    have out : ∀ b, b ∉ [e, it] → b ≠ e ∧ b ≠ it := fun b hb => ⟨fun z => hb (by rw [z]; simp), fun z => hb (by rw [z]; simp)⟩
    have U : Un (frs X.stack) [e, it] H (upd H s.heap.objs.size (.tup [.int (i : Nat), x])) s.heap h2 :=
      { keep := fun b o eb nb _ hx => kall b o (out b hx).1 (out b hx).2 eb
        slot := fun b o eb nb _ hx => ⟨o.slots, kall b o (out b hx).1 (out b hx).2 eb⟩
        free := fun b o eb nb hx => by rw [upd_ne (hlt b o eb)]; exact nb
        there := fun b o eb hx => ⟨o, kall b o (out b hx).1 (out b hx).2 eb⟩
        tups := fun b ys eb => by rw [upd_ne (ne_of_none eb hnew)]; exact eb
        frzs := fun b o y eb => by rw [upd_ne (ne_of_none eb hnew)]; exact eb
        tbls := fun b ps eb => ⟨#[], by rw [upd_ne (ne_of_none eb hnew), eb]; simp⟩ }
    have I2 : Inv X pins σ (upd H s.heap.objs.size (.tup [.int (i : Nat), x])) { s with heap := h2, toks := s.toks + 1 } :=
      I.call' (s' := { s with heap := h2, toks := s.toks + 1 }) (ch := [e, it]) rfl U hok2 I.bare fun b hb => by
        rcases List.mem_cons.mp hb with hb | hb
        · subst hb; exact ⟨f3, f1, f4, f5⟩
        · have eb : b = it := by simpa using hb
          subst eb; exact ⟨g3, g1, g4, g5⟩
    exact ⟨.ref s.heap.objs.size, _, I2, rfl, ⟨_, x, hnew, rfl, rfl, fun ys hy => by rw [I.list_inj hy hq]; exact hx⟩, ⟨⟨_, he2⟩, it1.extBut sb2.extBut hne.symm⟩, fun b hb => by
      rcases List.mem_cons.mp hb with hb | hb
      · subst hb; rw [upd_ne eT]; exact f0
      · have eb : b = it := by simpa using hb
        subst eb; rw [upd_ne iT]; exact g0⟩
  done := by
    intro X hP hw hK hc i pins s σ H E I hf st hg
    subst hP hw hK
    obtain ⟨xs, hq, hx⟩ := hg
    obtain ⟨its, rv, p, hz⟩ := I.list hq
    obtain ⟨old, he⟩ := st.1
    obtain ⟨g0, g1, g2, g3, g4, g5⟩ := hf it (by simp)
    have hl := rv.length
    exact wpAny_pyNext_enum_end (I.ok.hd hc) he st.2 p.isList (by simp; omega) fun h' eb => ⟨rfl, I.turned (t' := s.toks) (fun b o hb e => eb b o hb e) g0 g1 g3 g4 g5⟩
  self := fun _ _ _ _ _ st h => let ⟨_, he⟩ := st.1; wpAny_pyIter_enum he h
section
variable {X : Cx} {es : List Expr} {k : Nat} {tpos : Pos}
noncomputable def iEnum (K : PySem.W.Frag) (ta : TA) : TI := fun σ H R => ta σ H fun vs H1 => ∃ a xs, vs = [.ref a] ∧ SqL K H1 a xs ∧ R (Itn K a) H1
theorem pi_enum {a : Expr} {ta : TA} {p pos : Pos} (hg : Gl X "enumerate") (hm : X.mg "enumerate" = none) (ha : PA X [a] ta) (hs : starEach [a] X.env = [(false, eval a X.env)] := by rfl) : PI X (.Tuple es k tpos) (.Call (.Name "enumerate" p) [a] [] pos) (iEnum X.K ta) := by
  intro pins s σ H R I h
  refine Call_ (ld_blt I hg hm PyProof.Rows.boot_enumerate (PyProof.Rows.callWith_type1 (thn (ha pos pins s σ H _ I h) fun us s1 ⟨vs, H1, I1, r1, q1⟩ => ?_) hs rfl))
  obtain ⟨a, xs, rfl, hq, q⟩ := q1
  obtain ⟨u, rfl, ru⟩ := vals1 r1
  cases ru
  obtain ⟨its, rv, p, hz⟩ := I1.list hq
  refine call_enumerate_list p.isList fun h2 he hit hsz k2 => ?_
  refine wpAny_pyIter_enum he ?_
  have I2 : Inv X pins σ H1 { s1 with heap := h2 } := I1.kept (t' := s1.toks) k2
  refine ⟨s1.heap.objs.size + 1, [s1.heap.objs.size + 1, s1.heap.objs.size], _, _, H1, rfl, I2, turn_enum a _ _ (Nat.succ_ne_self _), ⟨⟨_, he⟩, hit⟩, fun b hb => ?_, q⟩
  rcases List.mem_cons.mp hb with hb | hb
  · subst hb
    exact I1.fpOk (Nat.le_succ _) (I1.hok.fresh (Nat.le_succ _))
  · have e : b = s1.heap.objs.size := by simpa using hb
    subst e
    exact I1.fpOk (Nat.le_refl _) (I1.hok.fresh (Nat.le_refl _))
end
theorem for_enum {K : PySem.W.Frag} {a : Addr} {xs : List V} {g : TG} {tb : TS} {D : Ends} {σ : St} {H : Hp} (Pv : Nat → St → Hp → Prop) (h0 : Pv 0 σ H) (hl : ∀ i σ H, i ≤ xs.length → Pv i σ H → SqL K H a xs)
    (hs : ∀ i x T σ H, xs[i]? = some x → Pv i σ H → H T = none → g (.ref T) σ (upd H T (.tup [.int (i : Nat), x])) fun σ2 H2 => tb { D with nx := Pv (i + 1), ct := Pv (i + 1), bk := D.nx } σ2 H2) (hd : ∀ σ H, Pv xs.length σ H → D.nx σ H) :
    ∃ W : Nat → Nat → St → Hp → Prop, (∃ m, W 0 m σ H) ∧ ∀ i m σ H, W i m σ H →
      ((Itn K a).stop i H ∧ D.nx σ H) ∨ ((Itn K a).go i H ∧ ∃ N : St → Hp → Prop, (∀ σ' H', N σ' H' → ∃ m', m' < m ∧ W (i + 1) m' σ' H') ∧ ∀ x H', (Itn K a).yld i H x H' → g x σ H' fun σ2 H2 => tb { D with nx := N, ct := N, bk := D.nx } σ2 H2) := by
  refine ⟨fun i m σ H => m = xs.length - i ∧ i ≤ xs.length ∧ Pv i σ H, ⟨xs.length, by simp, Nat.zero_le _, h0⟩, ?_⟩
  rintro i m σ H ⟨rfl, hi, p⟩
  have q := hl i σ H hi p
  by_cases hlt : i < xs.length
  · refine .inr ⟨⟨xs, xs[i], q, by simp [hlt]⟩, Pv (i + 1), fun σ' H' p' => ⟨xs.length - (i + 1), by omega, rfl, hlt, p'⟩, fun x H' y => ?_⟩
    obtain ⟨T, v, hT, rfl, rfl, y⟩ := y
    exact hs i v T σ H (y xs q) p hT
  · have e : i = xs.length := by omega
    subst e
    exact .inl ⟨⟨xs, q, Nat.le_refl _⟩, hd σ H p⟩
mutual
inductive DatR (K : PySem.W.Frag) (H : Hp) : V → PyData → Prop
  | non : DatR K H .non .none
  | bl (b : Bool) : DatR K H (.bl b) (.bool b)
  | int (i : Int) : DatR K H (.int i) (.int i)
  | lst {a : Addr} {xs : List V} {ds : List PyData} : SqL K H a xs → DatA K H xs ds → DatR K H (.ref a) (.list ds)
  | tup {a : Addr} {xs : List V} {ds : List PyData} : SqT K H a xs → DatA K H xs ds → DatR K H (.ref a) (.tuple ds)
inductive DatA (K : PySem.W.Frag) (H : Hp) : List V → List PyData → Prop
  | nil : DatA K H [] []
  | cons {x : V} {d : PyData} {xs : List V} {ds : List PyData} : DatR K H x d → DatA K H xs ds → DatA K H (x :: xs) (d :: ds)
end
section
variable {X : Cx} {pins : List (Addr × Obj)} {σ : St} {H : Hp} {s : Shared}
mutual
theorem DatR.reads (I : Inv X pins σ H s) : ∀ {x : V} {d : PyData}, DatR X.K H x d → ∀ {u : Value}, RelV x u → ∃ as, Reads s.heap u d as
  | _, _, .non, _, r => by cases (show _ = Value.none from r); exact ⟨_, .none⟩
  | _, _, .bl b, _, r => by cases (show _ = Value.bool b from r); exact ⟨_, .bool b⟩
  | _, _, .int i, _, r => by obtain ⟨t, rfl⟩ := (show ∃ t, _ = Value.int i t from r); exact ⟨_, .int i t⟩
  | _, _, @DatR.lst _ _ a xs ds h hA, _, r => by
    cases (show _ = Value.ref a from r)
    obtain ⟨its, rv, p, hz⟩ := I.list h
    obtain ⟨as, hr⟩ := DatA.reads I hA rv
    obtain ⟨o, ho, hc, n, hd⟩ := p.isList
    exact ⟨_, Reads.list ho hc hd (by simpa using hr)⟩
  | _, _, @DatR.tup _ _ a xs ds h hA, _, r => by
    cases (show _ = Value.ref a from r)
    obtain ⟨its, rv, p, hz⟩ := I.tuple h
    obtain ⟨as, hr⟩ := DatA.reads I hA rv
    obtain ⟨o, ho, hc, n, hd⟩ := (show s.heap.IsTuple a its.toArray from p)
    exact ⟨_, Reads.tuple ho hc hd (by simpa using hr)⟩
theorem DatA.reads (I : Inv X pins σ H s) : ∀ {xs : List V} {ds : List PyData}, DatA X.K H xs ds → ∀ {us : List Value}, Vals xs us → ∃ as, ReadsAll s.heap us ds as
  | _, _, .nil, _, .nil => ⟨_, .nil⟩
  | _, _, .cons h hA, _, .cons r rs => by
    obtain ⟨as, h1⟩ := DatR.reads I h r
    obtain ⟨bs, h2⟩ := DatA.reads I hA rs
    exact ⟨_, .cons h1 h2⟩
end
noncomputable def rNeD (K : PySem.W.Frag) : R2 := fun x y H Q => ∃ d e, DatR K H x d ∧ DatR K H y e ∧ SeqAt.shaped d = true ∧ SeqAt.shaped e = true ∧ Q (.bl (!PyData.eqv d e)) H
theorem op_neD (hu : X.A.units + 64 < cLine) : OpR X (compareOp .NotEq) (rNeD X.K) := by
  intro pins s σ H x y v u Q I rx ry h
  obtain ⟨d, e, hd, he, sd, se, q⟩ := h
  obtain ⟨as, ra⟩ := hd.reads I rx
  obtain ⟨bs, rb⟩ := he.reads I ry
  exact ne_dataH ra rb sd se hu ⟨.bl _, H, I, rfl, q⟩
end
noncomputable def dT (ns : List Int) : PyData := .tuple (ns.map PyData.int)
noncomputable def dLT (nss : List (List Int)) : PyData := .list (nss.map dT)
theorem eqvAll_ints : ∀ ns ms : List Int, PyData.eqvAll (ns.map PyData.int) (ms.map PyData.int) = decide (ns = ms)
  | [], [] => by simp [PyData.eqvAll]
  | [], _ :: _ => by simp [PyData.eqvAll]
  | _ :: _, [] => by simp [PyData.eqvAll]
  | n :: r, m :: q => by
    simp only [List.map_cons, PyData.eqvAll, PyData.eqv, eqvAll_ints r q]
    by_cases h : n = m <;> simp [h]
theorem eqv_dT (ns ms : List Int) : PyData.eqv (dT ns) (dT ms) = decide (ns = ms) := by unfold dT; rw [PyData.eqv]; exact eqvAll_ints ns ms
theorem eqvAll_map {f : List Int → PyData} (hf : ∀ a b, PyData.eqv (f a) (f b) = decide (a = b)) : ∀ xs ys : List (List Int), PyData.eqvAll (xs.map f) (ys.map f) = decide (xs = ys)
  | [], [] => by simp [PyData.eqvAll]
  | [], _ :: _ => by simp [PyData.eqvAll]
  | _ :: _, [] => by simp [PyData.eqvAll]
  | n :: r, m :: q => by
    simp only [List.map_cons, PyData.eqvAll, hf, eqvAll_map hf r q]
    by_cases h : n = m <;> simp [h]
theorem eqv_dLT (a b : List (List Int)) : PyData.eqv (dLT a) (dLT b) = decide (a = b) := by unfold dLT; rw [PyData.eqv]; exact eqvAll_map eqv_dT a b
theorem canLay_dT (ns : List Int) : (dT ns).canLay0 = true := by unfold dT; simp only [PyData.canLay0]; exact PySem.W.canLayAll0_ints ns
theorem depth_dT (ns : List Int) : (dT ns).depth ≤ 2 := by unfold dT; simp only [PyData.depth]; have := PySem.W.depthAll_ints ns; omega
theorem all_map {f : List Int → PyData} (h1 : ∀ a, (f a).canLay0 = true) (h2 : ∀ a, (f a).depth ≤ 2) : ∀ xs : List (List Int), PyData.canLayAll0 (xs.map f) = true ∧ PyData.depthAll (xs.map f) ≤ 2
  | [] => by simp [PyData.canLayAll0, PyData.depthAll]
  | a :: r => by
    have ih := all_map h1 h2 r
    have := h2 a
    simp only [List.map_cons, PyData.canLayAll0, PyData.depthAll, h1, ih.1, Bool.and_self, true_and]
    omega
theorem shaped_of {d : PyData} (h1 : d.canLay0 = true) (h2 : d.depth ≤ 64) : SeqAt.shaped d = true := by
  show (d.canLay0 && decide (d.depth ≤ 64)) = true
  rw [h1, decide_eq_true h2]; rfl
theorem shaped_dLT (a : List (List Int)) : SeqAt.shaped (dLT a) = true := by
  have h := all_map canLay_dT depth_dT a
  exact shaped_of (by unfold dLT; simp only [PyData.canLay0]; exact h.1) (by unfold dLT; simp only [PyData.depth]; omega)
theorem datA_ints (K : PySem.W.Frag) (H : Hp) : ∀ ns : List Int, DatA K H (iv ns) (ns.map PyData.int)
  | [] => .nil
  | n :: r => .cons (.int n) (datA_ints K H r)
theorem datR_T {K : PySem.W.Frag} {H : Hp} {a : Addr} {ns : List Int} (h : SqT K H a (iv ns)) : DatR K H (.ref a) (dT ns) := .tup h (datA_ints K H ns)
theorem datA_of {K : PySem.W.Frag} {H : Hp} {f : List Int → PyData} {P : Addr → List Int → Prop} (hp : ∀ a ns, P a ns → DatR K H (.ref a) (f ns)) : ∀ {as : List Addr} {nss : List (List Int)}, Paired P as nss → DatA K H (as.map V.ref) (nss.map f)
  | _, _, .nil => .nil
  | _, _, .cons h r => .cons (hp _ _ h) (datA_of hp r)
end L2
namespace L2
open PySem PySem.Spec PyProof.Rows

structure Fly (P : Program) (w : World) (outer : List Env) (H : Hp) (s : Shared) (cls : Value) (H' : Hp) (e : Addr) (s' : Shared) : Prop where
  os : s'.os = s.os
  bare : AllBare s'.gens
  un : Un (frs outer) [] H H' s.heap s'.heap
  hok : HOk P w H' s'.heap
  new : H' e = none
  newS : s.heap.get? e = none
  fly : ∃ B a0, Heap.FlyingW B outer e cls a0 s'.heap ∧ ∀ b o, b ∉ frs outer → ((∃ u, s.heap.get? b = some u) ∨ ∃ u, H' b = some u) → s'.heap.get? b = some o → B.get? b = some o
noncomputable def CX1 (P : Program) (w : World) : CXT := fun outer H s E e s' => ∃ ea cls H', e = .ref ea ∧ Fly P w outer H s cls H' ea s' ∧ E cls none H'
theorem ObjOk.there {P : Program} {w : World} {H : Hp} {h : Heap} {a : Addr} {o : HO} (x : ObjOk P w H h a o) : ∃ u, h.get? a = some u := by
  cases o with
  | lst xs => obtain ⟨_, _, _, _, e⟩ := x; exact ⟨_, e⟩
  | tup xs => obtain ⟨_, _, _, o, e, _⟩ := x; exact ⟨_, e⟩
  | dK kvs => obtain ⟨_, _, _, _, o, _, _, e, _⟩ := x; exact ⟨_, e⟩
  | dT kvs => obtain ⟨_, _, _, _, o, _, _, e, _⟩ := x; exact ⟨_, e⟩
  | set S n => obtain ⟨o, _, _, _, e, _⟩ := x; exact ⟨_, e⟩
  | ins C dx fs => obtain ⟨_, _, _, e, _⟩ := x; exact ⟨_, e⟩
  | own y => exact x
  | xd fs => obtain ⟨_, ⟨_, _, _, e, _⟩, _⟩ := x; exact ⟨_, e⟩
  | rng lo hi => obtain ⟨_, _, _, e⟩ := x; exact ⟨_, e⟩
  | frz ob u => obtain ⟨e, _⟩ := x; exact ⟨_, e⟩
  | tbl ps => exact ⟨_, (show h.get? a = some _ from x)⟩
  | met f y => exact ⟨_, (show h.get? a = some _ from x)⟩
  | ext φ => obtain ⟨_, e, _⟩ := x; exact e

section
variable {X : Cx} {pins : List (Addr × Obj)} {σ : St} {H H' : Hp} {s s' : Shared} {g h'' B : Heap} {e : Addr} {cls a0 : Value}
theorem Inv.frOld (I : Inv X pins σ H s) {b : Addr} {o : Obj} (q : X.s₀.heap.get? b = some o) (n : b ∉ X.fs) : b ∉ frs X.stack := fun z => by
  rcases List.mem_cons.mp (I.stkSub b z) with z | z
  · exact absurd (Nat.lt_of_lt_of_le (Heap.lt_size q) I.ok.above) (by rw [z]; exact Nat.lt_irrefl _)
  · exact n z
theorem Inv.old (I : Inv X pins σ H s) (hx : X.ex = []) {b : Addr} {o : Obj} (q : X.s₀.heap.get? b = some o) : ∃ u, s.heap.get? b = some u := I.base.there b o q (by rw [hx]; simp)
theorem Inv.flyOut (I : Inv X pins σ H s) (hx : X.ex = []) (U : Un (frs X.stack) [] H H' s.heap g) (hok : HOk X.prog X.w H' g)
    (hB : ∀ b o, b ∉ frs X.stack → ((∃ u, s.heap.get? b = some u) ∨ ∃ u, H' b = some u) → g.get? b = some o → B.get? b = some o) (hf : Heap.FlyingW B X.outer e cls a0 h'') (hs : g.UpToSlots h'')
    (ne : H' e = none) (nS : s.heap.get? e = none) (os : s'.os = s.os) (bare : AllBare s'.gens) (hh : s'.heap = h'') : Fly X.prog X.w X.outer X.H₀ X.s₀ cls H' e s' := by
  have stay := hf.1
  have hfr : ∀ b ∈ frs X.stack, H' b = none := fun b hb => by
    obtain ⟨_, o, ho, _⟩ := I.stack.mem hb
    exact U.free b o ho (I.stkFree b hb) (by simp)
  have nf : ∀ b u, H' b = some u → b ∉ frs X.stack := fun b u q z => by rw [hfr b z] at q; cases q
  have slot : ∀ b o, X.s₀.heap.get? b = some o → b ∈ X.fs → X.H₀ b = none → ∃ sl, h''.get? b = some { o with slots := sl } := fun b o q hb n => by
    obtain ⟨sl, e1⟩ := I.base.slot b o q n hb (by rw [hx]; simp)
    have n1 := I.base.free b o q n (by rw [hx]; simp)
    obtain ⟨sl2, e2⟩ := U.any e1 n1 (by simp)
    obtain ⟨_, o', ho', hd⟩ := I.ok.funs.mem hb
    rw [q] at ho'; cases ho'
    obtain ⟨sl3, e3⟩ := hs b _ e2 hd
    exact ⟨sl3, e3⟩
  have kept : ∀ b o, g.get? b = some o → b ∉ frs X.stack → ((∃ u, s.heap.get? b = some u) ∨ ∃ u, H' b = some u) → h''.get? b = some o := fun b o q n t => stay b o (hB b o n t q)
  have there : ∀ b o, X.s₀.heap.get? b = some o → b ∉ X.fs → ∃ u, g.get? b = some u ∧ h''.get? b = some u := fun b o q n => by
    obtain ⟨u, eu⟩ := I.old hx q
    obtain ⟨v, ev⟩ := U.there b u eu (by simp)
    exact ⟨v, ev, kept b v ev (I.frOld q n) (.inl ⟨u, eu⟩)⟩
  have hok' : HOk X.prog X.w H' h'' := fun b u q => (hok b u q).stay (fun c v hc qv => by
    rcases hc with z | z
    · subst z; exact kept c v qv (nf c u q) (.inr ⟨u, q⟩)
    · exact kept c v qv (nf c _ z) (.inr ⟨_, z⟩)) (fun _ z => z) fun _ _ z => z
  refine ⟨os.trans I.os, bare, ?_, by rw [hh]; exact hok', ne, ?_, B, a0, by rw [hh]; exact hf, fun b o n t q => ?_⟩
  · rw [hh]
    refine ⟨fun b o q n hb _ => ?_, fun b o q n hb _ => slot b o q hb n, fun b o q n _ => ?_, fun b o q _ => ?_, fun b xs q => U.tups b xs (I.base.tups b xs q), fun b o u q => U.frzs b o u (I.base.frzs b o u q), fun b ps q => ?_⟩
    · have e1 := I.base.keep b o q n hb (by rw [hx]; simp)
      have n1 := I.base.free b o q n (by rw [hx]; simp)
      have hbs := I.frOld q hb
      exact kept b o (U.keep b o e1 n1 hbs (by simp)) hbs (.inl ⟨o, e1⟩)
    · obtain ⟨u, eu⟩ := I.old hx q
      exact U.free b u eu (I.base.free b o q n (by rw [hx]; simp)) (by simp)
    · by_cases hb : b ∈ X.fs
      · obtain ⟨sl, z⟩ := slot b o q hb (I.ok.frf b hb)
        exact ⟨_, z⟩
      · obtain ⟨u, _, z⟩ := there b o q hb
        exact ⟨u, z⟩
    · obtain ⟨m1, e1⟩ := I.base.tbls b ps q
      obtain ⟨m2, e2⟩ := U.tbls b _ e1
      exact ⟨m1 ++ m2, by rw [e2, Array.append_assoc]⟩
  · cases q : X.s₀.heap.get? e with
    | none => rfl
    | some o =>
      obtain ⟨u, eu⟩ := I.old hx q
      rw [nS] at eu; cases eu
  · rw [hh] at q
    rcases t with ⟨u, eu⟩ | ⟨u, eu⟩
    · obtain ⟨v, ev, ev2⟩ := there b u eu n
      rw [q] at ev2; cases ev2
      obtain ⟨u2, eu2⟩ := I.old hx eu
      exact hB b _ (I.frOld eu n) (.inl ⟨u2, eu2⟩) ev
    · obtain ⟨v, ev⟩ := (hok b u eu).there
      have ev2 := kept b v ev (nf b u eu) (.inr ⟨u, eu⟩)
      rw [q] at ev2; cases ev2
      exact hB b _ (nf b u eu) (.inr ⟨u, eu⟩) ev
end

section
variable {P : Program} {w : World} {K : PySem.W.Frag} {mg : Str → Option Value} {base : Heap} {N : List Str} {qual : Str} {scope : Scope} {f : Addr} {cd : Value} {A : Around} {outer : List Env} {s₀ : Shared} {H₀ : Hp} {E : XK}
noncomputable abbrev cxE (P : Program) (w : World) (K : PySem.W.Frag) (mg : Str → Option Value) (base : Heap) (N : List Str) (qual : Str) (scope : Scope) (f : Addr) (cd : Value) (A : Around) (outer : List Env) (s : Shared) (H : Hp) (E : XK) : Cx :=
  cxOf (CX1 P w) P w K mg base N qual scope f cd A outer s H E
noncomputable def Rais (X : Cx) (E : XK) : Prop := ∀ (pins : List (Addr × Obj)) (σ : St) (H : Hp) (s : Shared) (h' : Heap) (e : Addr) (cls : Value) (vs : List Value), Inv X pins σ H s → Heap.MadeExcOf s.heap h' e cls vs → E cls none H → X.xe (.ref e) { s with heap := h' }
theorem rais_cx : Rais (cxE P w K mg base N qual scope f cd A outer s₀ H₀ E) E := by
  intro pins σ H s h' e cls vs I hx q
  have hne : H e = none := by
    cases z : H e with
    | none => rfl
    | some u =>
      obtain ⟨o, eo⟩ := (I.hok e u z).there
      rw [hx.new] at eo; cases eo
  refine wpAny_leaves_madeW (base := PySem.W.hideAll s.heap (frs (cxE P w K mg base N qual scope f cd A outer s₀ H₀ E).stack)) (h := s.heap) (outer := outer) (L := s₀.heap.objs.size) I.ok.frames rfl (fun b o z => PySem.W.of_hideAll _ z)
    (PySem.W.funFrames_hide I.stack fun env he a ha => List.mem_filterMap.mpr ⟨env, he, ha⟩) hx fun h'' t hf _ _ hs => ?_
  refine ⟨e, cls, H, rfl, I.flyOut (B := PySem.W.hideAll s.heap (frs (cxE P w K mg base N qual scope f cd A outer s₀ H₀ E).stack)) rfl (Un.kept hx.keeps) (I.hok.kept hx.keeps) (fun b o n t z => ?_) hf hs hne hx.new rfl I.bare rfl, q⟩
  have : ∃ u, s.heap.get? b = some u := by
    rcases t with t | ⟨u, eu⟩
    · exact t
    · exact (I.hok b u eu).there
  obtain ⟨u, eu⟩ := this
  have := hx.keeps b u eu
  rw [z] at this; cases this
  exact PySem.W.hideAll_get _ eu n
theorem pass1 {E' : XK} (hE : ∀ cls d H, E' cls d H → E cls d H) : Passes (CX1 P w) (cxE P w K mg base N qual scope f cd A outer s₀ H₀ E) E' := by
  rintro pins σ H s e s' I ⟨ea, cls, H', rfl, F, q⟩
  obtain ⟨B, a0, hf, hB⟩ := F.fly
  refine wpAny_leaves_onW (base := B) (outer := outer) (L := s₀.heap.objs.size) I.ok.frames rfl hf fun h'' hf' hs => ?_
  exact ⟨ea, cls, H', rfl, I.flyOut rfl F.un F.hok hB hf' hs F.new F.newS F.os F.bare rfl, hE _ _ _ q⟩
end

theorem own_obj {K : PySem.W.Frag} {h : Heap} {C : Addr} {bmB : List Value} {newId : String} (X : K.In h) (q : PySem.W.excIn K C bmB newId = true) :
    ∃ bm N nm q bs hdct sn sub ab col dd k0 k1 k2 k3 k5 mN, h.get? C = some (excClassObj nm q C N bs bm hdct sn sub ab col dd k0 k1 k2 k3 k5 newId) ∧ h.Ns N mN ∧ mN "__init__" = none ∧ OwnTail h bmB bm := by
  unfold PySem.W.excIn at q
  split at q
  · rename_i dd cd sl ho
    split at q
    · rename_i C' bm k0 k1 k2 k3 n k5 hm hs
      simp only [Bool.and_eq_true, beq_iff_eq, Bool.not_eq_true'] at q
      obtain ⟨⟨⟨⟨⟨rfl, rfl⟩, hdel⟩, ht⟩, hok⟩, hni⟩ := q
      obtain ⟨nm, bs, mro, ns, qn, hd, sn, sub, ab, col, del⟩ := cd
      dsimp only at hm hdel hok hni
      subst hm hdel
      have hsl : sl = #[k0, k1, k2, k3, some (.builtin n), k5] := by
        obtain ⟨l⟩ := sl
        simp only at hs
        rw [hs]
      subst hsl
      exact ⟨bm, ns, nm, qn, bs, hd, sn, sub, ab, col, dd, k0, k1, k2, k3, k5, _, X _ _ ho, .of_isNs (PySem.W.isNs_of_in X hok), PySem.W.nsMap_none_of_in X hok hni, PySem.W.tail_of_in X ht⟩
    · cases q
  · cases q
abbrev valueErr : List Value := [.type "ValueError", .type "Exception", .type "BaseException", .type "object"]
structure Err (K : PySem.W.Frag) (mg : Str → Option Value) (x : Str) (C : Addr) : Prop where
  gl : mg x = some (.ref C)
  ok : PySem.W.excIn K C valueErr "ValueError.__new__" = true
noncomputable def tRaise (E : XK) (C : Addr) (t : TA) : TS := fun _ σ H => t σ H fun vs H1 => vs.length ≤ sizeLine ∧ E (.ref C) none H1
section
variable {X : Cx} {E : XK} {C : Addr} {x : Str} {np cpos pos : Pos} {e₀ : Expr} {rest : List Expr} {t : TA}
theorem ps_raise (hE : Rais X E) (hc : X.calm = true) (er : Err X.K X.mg x C) (hg : Gl X x) (ha : PA X (e₀ :: rest) t) (he : starEach (e₀ :: rest) X.env = (false, eval e₀ X.env) :: starEach rest X.env := by rfl)
    (hplain : (backTo cpos (starEach rest X.env)).any (·.1) = false := by rfl) (hd : (x == ("__debug__" : Str)) = false := by decide) :
    PS X (.Raise (some (.Call (.Name x np) (e₀ :: rest) [] cpos)) none pos) (tRaise E C t) := by
  intro pins s σ H D I h
  obtain ⟨tl, N, nm, q, bs, hdct, sn, sub, ab, col, dd, k0, k1, k2, k3, k5, mN, hC, hN, hni, T⟩ := own_obj I.ok.mod.kin er.ok
  refine wpAny_Raise_call_subU (C := C) (nm := nm) (q := q) (N := N) (bs := bs) (bm := tl) (hdct := hdct) (sn := sn) (sub := sub) (ab := ab) (col := col) (dd := dd) (k0 := k0) (k1 := k1) (k2 := k2) (k3 := k3) (k5 := k5)
    (Bn := "ValueError") (newId := "ValueError.__new__") PySem.F.excBase_ValueError (by decide) PySem.F.excBase_ValueError (mN := mN) (T.hasType PySem.F.excBase_ValueError.hasBase) (I.ok.hd hc) (by rw [he]; show (false || (backTo cpos (starEach rest X.env)).any (·.1)) = false; rw [hplain]; rfl) hni (ld_glob I hg er.gl ⟨rfl, ?_⟩ hd)
  have h' := ha cpos pins s σ H _ I h
  rw [he] at h' ⊢
  exact Calls.evalArgs_plain (wpAny_mono h' (fun us s2 ⟨vs, H2, I2, r, z, q⟩ => ⟨rfl, by show us.length ≤ sizeLine; rw [← r.length]; exact z, I2.bk _ _ hC, hN.keeps I2.bk, T.keeps I2.bk, fun h'' e hm => hE pins σ H2 s2 h'' e _ _ I2 hm q⟩) fun _ _ y => y)
end
theorem Fun.okE {P : Program} {w : World} {K : PySem.W.Frag} {mg : Str → Option Value} {base : Heap} {x qual : Str} {st : Stmt} {f : Addr} {fd : FuncData} {N ps : List Str} {k : Nat} {sp : Sp} (F : Fun K x qual st f fd) (S : FnScope N ps (defScope st)) (len : ∀ vs H Q E, sp vs H Q E → vs.length = ps.length)
    (hbody : ∀ (cdv : Value) (A : Around) (outer : List Env) (s : Shared) (H : Hp) (vs : List V) (Q : VK) (E : XK), Room k (A.deeper (envOfC qual (defScope st) s.heap.objs.size f cdv)) → sp vs H Q E →
      ∃ t, PSs (cxE P w K mg base N qual (defScope st) f cdv A outer s H E) (defBody st) t ∧ t { nx := fun _ H' => Q .non H', rt := Q } (start N vs) H) : FnOk P w K mg base (CX1 P w) (k + 1) f fd ps sp := by
  obtain ⟨oc, od, kV, doc, pm, an, cdv, ct, osl, rfl, lk, hcd⟩ := F.ex
  exact fn_of lk hcd S len fun A outer s H vs Q E hr hsp => hbody cdv A outer s H vs Q E hr hsp
theorem own_loops {P : Program} {w : World} {K : PySem.W.Frag} {mg : Str → Option Value} {base : Heap} {N : List Str} {qual : Str} {scope : Scope} {f : Addr} {cd : Value} {A : Around} {outer : List Env} {s₀ : Shared} {H₀ : Hp} {E : XK} :
    PassesOwn (model P w) (cxE P w K mg base N qual scope f cd A outer s₀ H₀ E).A (cxE P w K mg base N qual scope f cd A outer s₀ H₀ E).env (cxE P w K mg base N qual scope f cd A outer s₀ H₀ E).xe := PassesOwn.leaving

noncomputable def PEat (X : Cx) (pins : List (Addr × Obj)) (σ : St) (e : Expr) (t : TE) : Prop := ∀ (s : Shared) (H : Hp) (Q : VK), Inv X pins σ H s → t σ H Q → wpAny (model X.prog X.w) X.A (eval e X.env) (EP X pins σ Q) X.xe s
noncomputable def PSat (X : Cx) (pins : List (Addr × Obj)) (σ : St) (st : Stmt) (t : TS) : Prop := ∀ (s : Shared) (H : Hp) (D : Ends), Inv X pins σ H s → t D σ H → wpAny (model X.prog X.w) X.A (exec st X.env) (SP X pins D) X.xe s
noncomputable def PSsat (X : Cx) (pins : List (Addr × Obj)) (σ : St) (st : List Stmt) (t : TS) : Prop := ∀ (s : Shared) (H : Hp) (D : Ends), Inv X pins σ H s → t D σ H → wpAny (model X.prog X.w) X.A (execs st X.env) (SP X pins D) X.xe s
noncomputable def PassAt (CX : CXT) (X : Cx) (pins : List (Addr × Obj)) (σ : St) (E : XK) : Prop := ∀ (H : Hp) (s : Shared) (e : Value) (s' : Shared), Inv X pins σ H s → CX X.stack H s E e s' → X.xe e s'
section
variable {X : Cx} {pins : List (Addr × Obj)} {σ : St} {CX : CXT} {k : Nat} {f C : Addr} {fd : FuncData} {ps : List Str} {sp : Sp} {dvs : List V} {ds : List Value} {E : XK} {x m : Str} {p pos apos : Pos} {e o : Expr} {es : List Expr} {ta te : TE} {t : TA}
theorem run_fnAt {H : Hp} {s : Shared} {Q : VK} {us : List Value} {vs : List V} (F : FnOk X.prog X.w X.K X.mg X.base CX k f fd ps sp) (hr : Room k X.A) (hb : Binds X.K fd ps ds) (hd : Vals dvs ds) (hx : PassAt CX X pins σ E)
    (I : Inv X pins σ H s) (r : Vals vs us) (h : sp (vs ++ dvs) H Q E) : wpAny (model X.prog X.w) X.A (call (.ref f) us) (EP X pins σ Q) X.xe s := by
  have r2 : Vals (vs ++ dvs) (us ++ ds) := r.append hd
  have hl : (us ++ ds).length = ps.length := by rw [← r2.length]; exact F.len _ _ _ _ h
  refine wpAny_call (codeAny_mono (F.run X.A X.stack s H ⟨us, []⟩ (us ++ ds) (vs ++ dvs) Q E hr I.env0 (hb s us I.kIn hl) r2 h) fun r s' hq => ?_)
  cases r with
  | error e => exact hx H s e s' I hq
  | ok fl =>
    cases fl with
    | ret u => exact I.after hq
    | next => exact False.elim hq
    | brk => exact False.elim hq
    | cont => exact False.elim hq
theorem pe_callAt (F : FnOk X.prog X.w X.K X.mg X.base CX k f fd ps sp) (hr : Room k X.A) (hg : Gl X x) (hm : X.mg x = some (.ref f)) (hk : PySem.W.keepIn X.K (.ref f) = true) (hb : Binds X.K fd ps ds) (hd : Vals dvs ds) (hx : PassAt CX X pins σ E)
    (ha : PA X (e :: es) t) (hdb : (x == ("__debug__" : Str)) = false := by decide) (he : starEach (e :: es) X.env = (false, eval e X.env) :: starEach es X.env := by rfl) (hpl : (backTo pos (starEach es X.env)).any (·.1) = false := by rfl) :
    PEat X pins σ (.Call (.Name x p) (e :: es) [] pos) (tCall sp dvs E t) := by
  intro s H Q I h
  refine wpAny_Call_Name_kw (ld_glob I hg hm ?_ hdb)
  refine PySem.W.callWith_K (h₀ := X.base) I.ok.mod.kin hk (thn (ha pos pins s σ H _ I h) fun us s1 ⟨vs, H1, I1, r, q⟩ => ⟨I1.kIn, ?_⟩) he hpl
  exact run_fnAt F hr hb hd hx I1 r q
theorem pe_methAt {pl : Sem Bool} (he : PE X o ta) (c : Cls X.K C) (hm : Meth X.K C m f) (F : FnOk X.prog X.w X.K X.mg X.base CX k f fd ps sp) (hr : Room k X.A) (hb : Binds X.K fd ps ds) (hd : Vals dvs ds) (hx : PassAt CX X pins σ E) (ha : PA X (e :: es) t)
    (hst : starEach (e :: es) X.env = (false, eval e X.env) :: starEach es X.env := by rfl) (hpl : (backTo pos (starEach es X.env)).any (·.1) = false := by rfl)
    (ht : eval (.Call (.Attribute o m apos) (e :: es) [] pos) X.env = (do
      let ov ← eval o X.env
      standAt apos.atName
      let (f, first) ← holding [ov] (getMethod ov m pl)
      callWith pos f first (backTo pos (starEach (e :: es) X.env)) (backToKw pos (keywordEach [] X.env))) := by rfl) :
    PEat X pins σ (.Call (.Attribute o m apos) (e :: es) [] pos) (tMeth C m sp dvs E ta t) := by
  intro s H Q I h
  refine PySem.W.methodCall_KW (pl := pl) (thn (he pins s σ H _ I h) fun u s1 ⟨x, H1, I1, rx, a, dx, fs, ex, ea, l, q⟩ => ?_) ht
  subst ex
  obtain rfl : u = Value.ref a := rx
  refine getmeth_ok I1 ea c hm l ?_
  refine PySem.W.callWith_K (first := [.ref a]) (h₀ := X.base) I.ok.mod.kin hm.kp (thn (ha pos pins s1 σ H1 _ I1 q) fun us s2 ⟨vs, H2, I2, r, q2⟩ => ⟨I2.kIn, ?_⟩) hst hpl
  exact run_fnAt (us := .ref a :: us) (vs := .ref a :: vs) F hr hb hd hx I2 (.cons rfl r) q2
theorem pe_methAt0 {pl : Sem Bool} (he : PE X o ta) (c : Cls X.K C) (hm : Meth X.K C m f) (F : FnOk X.prog X.w X.K X.mg X.base CX k f fd ps sp) (hr : Room k X.A) (hb : Binds X.K fd ps ds) (hd : Vals dvs ds) (hx : PassAt CX X pins σ E)
    (ht : eval (.Call (.Attribute o m apos) [] [] pos) X.env = (do
      let ov ← eval o X.env
      standAt apos.atName
      let (f, first) ← holding [ov] (getMethod ov m pl)
      callWith pos f first (backTo pos (starEach [] X.env)) (backToKw pos (keywordEach [] X.env))) := by rfl) :
    PEat X pins σ (.Call (.Attribute o m apos) [] [] pos) (tMeth C m sp dvs E ta tNil) := by
  intro s H Q I h
  refine PySem.W.methodCall_KW (pl := pl) (thn (he pins s σ H _ I h) fun u s1 ⟨x, H1, I1, rx, a, dx, fs, ex, ea, l, q⟩ => ?_) ht
  subst ex
  obtain rfl : u = Value.ref a := rx
  refine getmeth_ok I1 ea c hm l ?_
  exact PySem.W.callWith_K0 (first := [.ref a]) I1.kIn hm.kp (run_fnAt (us := [.ref a]) (vs := [.ref a]) F hr hb hd hx I1 (.cons rfl .nil) q)
theorem ps_exprAt (he : PEat X pins σ e te) (hs : swapsWith e none pos.line X.env = pure false := by rfl) : PSat X pins σ (.Expr e pos) (tDrop te) := by
  intro s H D I h
  exact wpAny_Expr_any (thn (he s H _ I h) fun v s1 ⟨x, H1, I1, r1, q1⟩ => ⟨σ, H1, I1, q1⟩) I.quiet hs
theorem pss_oneAt {st : Stmt} {t : TS} (h1 : PSat X pins σ st t) : PSsat X pins σ [st] t := by
  intro s H D I h
  refine wpAny_execs_cons (thn (h1 s H D I h) fun f s1 q => ?_)
  cases f with
  | next => exact wpAny_execs_nil q
  | ret v => exact q
  | brk => exact q
  | cont => exact q
theorem ps_ifAt {c : Expr} {a b : List Stmt} {tc : TT} {t u : TS} (hc : PT X c tc) (ha : PSsat X pins σ a t) (hb : PSsat X pins σ b u) : PSat X pins σ (.If c a b pos) (tIfS tc t u) := by
  intro s H D I h
  refine wpAny_If (thn (hc pins s σ H _ I h) fun d s1 ⟨H1, I1, q1⟩ => ?_)
  cases d with
  | true => exact ha s1 H1 D I1 q1
  | false => exact hb s1 H1 D I1 q1
end

noncomputable def excO (e : Addr) (cls : Value) : HO := .ext fun h => ∃ o, h.get? e = some o ∧ o.cls = cls
noncomputable abbrev Cx.suite (X : Cx) (e : Addr) : Cx := { X with A := X.A.mark (some (.ref e)), calm := false, xe := fun _ _ => False }
section
variable {X : Cx} {pins : List (Addr × Obj)} {σ : St} {H H' : Hp} {s s' : Shared} {e : Addr} {cls : Value}
theorem Inv.suite (I : Inv X pins σ H s) (e : Addr) : Inv (X.suite e) pins σ H s :=
  ⟨⟨I.ok.mod, I.ok.kind, I.ok.glob, I.ok.blt, I.ok.above, I.ok.inj, I.ok.has, I.ok.cab, fun z => Bool.noConfusion (show false = true from z), I.ok.frames, I.ok.stk, I.ok.exf, I.ok.bs, I.ok.bsz, I.ok.noex, I.ok.exfs, I.ok.funs, I.ok.frf⟩, I.os, I.bare, I.base, I.loc, I.cell, I.free, I.freeC, I.pin, I.hok, I.len⟩
theorem Inv.unsuite (I : Inv (X.suite e) pins σ H s) (ok : X.Ok) : Inv X pins σ H s := ⟨ok, I.os, I.bare, I.base, I.loc, I.cell, I.free, I.freeC, I.pin, I.hok, I.len⟩
theorem Inv.land {B h5 : Heap} {a0 : Value} {os' : OsState} {l : List Env} (I : Inv X pins σ H s) (F : Fly X.prog X.w X.stack H s cls H' e s') (hB : ∀ b o, b ∉ frs X.stack → ((∃ u, s.heap.get? b = some u) ∨ ∃ u, H' b = some u) → s'.heap.get? b = some o → B.get? b = some o)
    (hf : Heap.FlyingW B l e cls a0 h5) (hs : s'.heap.UpToSlots h5) : Inv X pins σ H' { s' with heap := h5 } := by
  have stay := hf.1
  have hfr : ∀ b ∈ frs X.stack, H' b = none := fun b hb => by
    obtain ⟨_, o, ho, _⟩ := I.stack.mem hb
    exact F.un.free b o ho (I.stkFree b hb) (by simp)
  have nf : ∀ b u, H' b = some u → b ∉ frs X.stack := fun b u q z => by rw [hfr b z] at q; cases q
  have slot : ∀ b o, s.heap.get? b = some o → b ∈ frs X.stack → ∃ sl, h5.get? b = some { o with slots := sl } := fun b o q hb => by
    obtain ⟨sl, e1⟩ := F.un.slot b o q (I.stkFree b hb) hb (by simp)
    obtain ⟨_, o', ho', hd⟩ := I.stack.mem hb
    rw [q] at ho'; cases ho'
    obtain ⟨sl2, e2⟩ := hs b _ e1 hd
    exact ⟨sl2, e2⟩
  refine I.call' (s' := { s' with heap := h5 }) (ch := []) F.os ⟨fun b o q n hb _ => stay b o (hB b o hb (.inl ⟨o, q⟩) (F.un.keep b o q n hb (by simp))), fun b o q n hb _ => slot b o q hb, fun b o q n hx => F.un.free b o q n hx, fun b o q hx => ?_, F.un.tups, F.un.frzs, F.un.tbls⟩
    (fun b u q => (F.hok b u q).stay (fun c v hc qv => ?_) (fun _ z => z) fun _ _ z => z) F.bare (fun b z => absurd z (by simp))
  · by_cases hb : b ∈ frs X.stack
    · obtain ⟨sl, z⟩ := slot b o q hb
      exact ⟨_, z⟩
    · obtain ⟨o', e1⟩ := F.un.there b o q hx
      exact ⟨o', stay b o' (hB b o' hb (.inl ⟨o, q⟩) e1)⟩
  · rcases hc with z | z
    · subst z; exact stay c v (hB c v (nf c u q) (.inr ⟨u, q⟩) qv)
    · exact stay c v (hB c v (nf c _ z) (.inr ⟨_, z⟩) qv)
theorem Inv.track {o : Obj} {u : HO} (I : Inv X pins σ H s) (n : H e = none) (h0 : X.s₀.heap.get? e = none) (hL : e ≠ X.env.locals) (hC : ∀ x c, X.env.cells.lookup x = some c → c ≠ e) (hp : ∀ p ∈ X.pn ++ pins, p.1 ≠ e) (new : ObjOk X.prog X.w (upd H e u) s.heap e u) :
    Inv X pins σ (upd H e u) s := by
  refine ⟨I.ok, I.os, I.bare, ⟨I.base.keep, I.base.slot, fun b o q m hx => ?_, I.base.there, fun b xs q => ?_, fun b o v q => ?_, fun b ps q => ?_⟩, I.loc, I.cell, ?_, fun x c q => ?_, fun p q => ?_, fun b v q => ?_, I.len⟩
  · rw [upd_ne (fun z => by rw [z, h0] at q; cases q)]; exact I.base.free b o q m hx
  · have := I.base.tups b xs q
    rw [upd_ne (ne_of_none this n)]; exact this
  · have := I.base.frzs b o v q
    rw [upd_ne (ne_of_none this n)]; exact this
  · obtain ⟨m, this⟩ := I.base.tbls b ps q
    exact ⟨m, by rw [upd_ne (ne_of_none this n)]; exact this⟩
  · rw [upd_ne (Ne.symm hL)]; exact I.free
  · rw [upd_ne (hC x c q)]; exact I.freeC x c q
  · obtain ⟨a, b, c, d, f⟩ := I.pin p q
    exact ⟨a, by rw [upd_ne (hp p q)]; exact b, c, d, f⟩
  · by_cases z : b = e
    · subst z; rw [upd_same] at q; cases q; exact new
    · rw [upd_ne z] at q
      exact (I.hok b v q).stay (fun _ _ _ y => y) (fun c y => by rw [upd_ne (ne_of_none y n)]; exact y) fun c xs y => by rw [upd_ne (ne_of_none y n)]; exact y
theorem Inv.goes {i : Nat} {x : Str} {pos : Pos} {M : Model} {A : Around} {E : Value → Shared → Prop} {Q : Unit → Shared → Prop} (I : Inv X pins σ H s) (hi : X.N[i]? = some x) (hN : X.N.Nodup) (hl : X.env.scope.names.lookup x = some .local)
    (h : ∀ s', Inv X pins (σ.set i none) H s' → Q () s') : wpAny M A (do bindName X.env x .none; unbindBehindTheSuite X.env x pos) Q E s := by
  obtain ⟨m, hn, hl'⟩ := id I.loc
  have hcls : (X.env.scope.kind == .class || (X.env.scope.kind == .module && X.env.locals != X.env.globals)) = false := by rw [I.ok.kind]; rfl
  have cne := I.cne
  refine wpAny_nameGoes_keeps hl hn hcls fun h' v hn' hs => ?_
  obtain ⟨oL, _, _, hoL, _⟩ := id hn
  have neL : ∀ b o, X.s₀.heap.get? b = some o → b ≠ X.env.locals := fun b o e => Nat.ne_of_lt (Nat.lt_of_lt_of_le (Heap.lt_size e) I.ok.above)
  refine h _ ⟨I.ok, I.os, I.bare, ⟨fun b o e n hb hx => (hs.2 b (neL b o e)).trans (I.base.keep b o e n hb hx), fun b o e n hb hx => ?_, I.base.free, fun b o e hx => ?_, I.base.tups, I.base.frzs, I.base.tbls⟩, ⟨_, hn', fun j y v' e1 e2 e3 => ?_⟩, fun y c e => ?_, I.free, I.freeC, fun p hp => ?_, fun b ob e => ?_, by simpa using I.len⟩
  · obtain ⟨sl, e1⟩ := I.base.slot b o e n hb hx
    exact ⟨sl, (hs.2 b (neL b o e)).trans e1⟩
  · obtain ⟨o', e1⟩ := I.base.there b o e hx
    exact ⟨o', (hs.2 b (neL b o e)).trans e1⟩
  · by_cases hj : j = i
    · subst hj
      rw [List.getElem?_set] at e2
      split at e2
      · split at e2 <;> cases e2
      · rename_i z; exact absurd rfl z
    · rw [List.getElem?_set_ne (Ne.symm hj)] at e2
      obtain ⟨u', r', q⟩ := hl' j y v' e1 e2 e3
      refine ⟨u', r', ?_⟩
      rcases q with ⟨k, e⟩ | ⟨k, c, e, z⟩
      · refine .inl ⟨k, ?_⟩
        have : y ≠ x := fun e => hj (nodup_ix hN e1 (e ▸ hi))
        simp [this, e]
      · exact .inr ⟨k, c, e, z.sameBut hs (cne y c e)⟩
  · obtain ⟨w', z⟩ := I.cell y c e
    exact ⟨w', z.sameBut hs (cne y c e)⟩
  · obtain ⟨e, n, ne, nf, d⟩ := I.pin p hp
    exact ⟨(hs.2 p.1 ne).trans e, n, ne, nf, d⟩
  · refine (I.hok b ob e).stay (fun c w' hc q => (hs.2 c ?_).trans q) (fun _ q => q) fun _ _ q => q
    rintro rfl
    rcases hc with rfl | hc
    · rw [I.free] at e; cases e
    · rw [I.free] at hc; cases hc
end
noncomputable def errSub (K : PySem.W.Frag) (C D : Addr) : Bool := match K.lookup C with
  | some ⟨_, _, .cls cd, _⟩ => cd.mro.contains (.ref D)
  | _ => false
section
variable {M : Model} {A : Around} {E : Value → Shared → Prop}
theorem exc_takes {K : PySem.W.Frag} {h : Heap} {g : Array GenState} {d : Drawn} {t : Nat} {os : OsState} {e C D : Addr} {oe : Obj} {Q : Bool → Shared → Prop} (X : K.In h) (kC : PySem.W.excIn K C valueErr "ValueError.__new__" = true) (kD : PySem.W.excIn K D valueErr "ValueError.__new__" = true) (hs : errSub K C D = true)
    (he : h.get? e = some oe) (hcls : oe.cls = .ref C) (hq : Q true ⟨h, g, d, t, os⟩) : wpAny M A (excMatches (.ref e) (.ref D)) Q E ⟨h, g, d, t, os⟩ := by
  obtain ⟨bm, N, nm, q, bs, hdct, sn, sub, ab, col, dd, k0, k1, k2, k3, k5, mN, hC, hN, hni, T⟩ := own_obj X kC
  obtain ⟨bm', N', nm', q', bs', hdct', sn', sub', ab', col', dd', k0', k1', k2', k3', k5', mN', hD, hN', hni', T'⟩ := own_obj X kD
  have hcB : (Value.ref D :: bm').contains (.type "BaseException") = true := by rw [List.contains_cons, T'.hasType PySem.F.excBase_ValueError.hasBase, Bool.or_true]
  have hcC : (Value.ref C :: bm).contains (.ref D) = true := by
    unfold errSub at hs
    split at hs
    · rename_i c' d' cd' sl' ho
      have z := (X _ _ ho).symm.trans hC
      unfold excClassObj at z
      cases z
      exact hs
    · cases hs
  have f := tc_notTuple
  unfold excMatches
  repeat (first | (with_reducible refine wpAny_loadPart_at he ?_; rw [hcls]) | with_reducible refine wpAny_loadPart_at hC ?_ | with_reducible refine wpAny_loadPart_at hD ?_ | (with_reducible refine wpAny_isSubtype_exc hD ?_; rw [hcB]) | (with_reducible refine wpAny_isSubtype_exc hC ?_; rw [hcC]) | wp_step)
  exact hq
end
section
variable {X : Cx} {body suite : List Stmt} {b₀ : Stmt} {x n : Str} {D : Addr} {np hpos pos : Pos} {tb : XK → TS} {ts : TS} {i : Nat}
noncomputable def tTryAs (K : PySem.W.Frag) (D : Addr) (i : Nat) (tb : XK → TS) (ts : TS) : TS := fun Z σ H => tb (fun cls _ H1 => ∃ C, cls = .ref C ∧ PySem.W.excIn K C valueErr "ValueError.__new__" = true ∧ errSub K C D = true ∧
  ∀ e, H1 e = none → ts { nx := fun σ2 H2 => Z.nx (σ2.set i none) H2, rt := Z.rt, bk := fun σ2 H2 => Z.bk (σ2.set i none) H2, ct := fun σ2 H2 => Z.ct (σ2.set i none) H2 } (σ.set i (some (.ref e))) (upd H1 e (excO e (.ref C)))) Z σ H
theorem ps_tryAs (hstk : X.stack = X.env :: X.outer) (hfr : X.env.frame = some X.env.locals) (hex : X.ex = []) (hxe : X.xe = fun _ _ => False) (hb : ∀ (pins : List (Addr × Obj)) (σ : St) (xe : Value → Shared → Prop) (E : XK), PassAt (CX1 X.prog X.w) (X.wish xe) pins σ E → PSsat (X.wish xe) pins σ body (tb E))
    (er : Err X.K X.mg x D) (hg : Gl X x) (hs : ∀ e, PSs (X.suite e) (b₀ :: suite) ts) (hN : X.N.Nodup) (hi : X.N[i]? = some n) (hl : X.env.scope.names.lookup n = some .local) (hd : (x == ("__debug__" : Str)) = false := by decide) :
    PS X (.Try body [.ExceptHandler (some (.Name x np)) (some n) (b₀ :: suite) hpos] [] [] pos) (tTryAs X.K D i tb ts) := by
  intro pins s σ H Z I h
  refine wpAny_Try_except (wpAny_mono (hb pins σ (fun e s' => ∃ H0 s0, Inv X pins σ H0 s0 ∧ CX1 X.prog X.w X.stack H0 s0 _ e s') _ (fun H0 s0 e s' I0 z => ⟨H0, s0, I0.unwish, z⟩) s H Z (I.wish _) h) (fun f s1 q => by
    have q' := q.unwish
    cases f with
    | next => exact wpAny_execs_nil q'
    | brk => exact q'
    | cont => exact q'
    | ret u => exact q') ?_)
  rintro ev s1 ⟨H0, s0, I0, e, cls, H', rfl, F, C, rfl, kC, sub, q⟩
  obtain ⟨B, a0, hfl, hB⟩ := F.fly
  have hfl0 := hfl
  rw [hstk] at hfl
  refine wpAny_looks_onW (by rw [I0.ok.frames, hstk]) hfr hfl fun h4 held4 sm4 => ?_
  refine wpAny_landsW held4 fun h5 fl5 sm5 => ?_
  have I5 : Inv X pins σ H' { s1 with heap := h5 } := I0.land (os' := s1.os) F hB fl5 (sm4.trans sm5)
  obtain ⟨ob, hob, hobc⟩ := fl5.there
  refine wpAny_handleBy_cons (codeAny_handlers_test (ld_glob (I5.suite e) hg er.gl ?_ hd)) (by intro z; cases z)
  refine exc_takes I5.kIn kC er.ok sub hob hobc (codeAny_handlers_suite_as ?_)
  refine lands_againW fl5 fun h6 fl6 sm6 => ?_
  have I6 : Inv X pins σ H' { s1 with heap := h6 } := I0.land (os' := s1.os) F hB fl6 ((sm4.trans sm5).trans sm6)
  obtain ⟨ob6, hob6, hobc6⟩ := fl6.there
  have nS0 : X.s₀.heap.get? e = none := by
    cases z : X.s₀.heap.get? e with
    | none => rfl
    | some o =>
      obtain ⟨u, eu⟩ := I0.old hex z
      rw [F.newS] at eu; cases eu
  have there0 : ∀ b o, s0.heap.get? b = some o → b ≠ e := fun b o z w => by rw [w, F.newS] at z; cases z
  have I7 : Inv X pins σ (upd H' e (excO e (.ref C))) { s1 with heap := h6 } := by
    refine I6.track (o := ob6) F.new nS0 (fun z => ?_) (fun y c z => ?_) (fun p z => ?_) ⟨⟨ob6, hob6, hobc6⟩, ⟨ob6, hob6⟩, fun h1 h2 ⟨o, e1, e2⟩ k => ⟨o, k o e1, e2⟩⟩
    · obtain ⟨m, ⟨o, _, _, ho, _⟩, _⟩ := I0.loc
      exact there0 _ o ho z.symm
    · obtain ⟨v, o, ho, _⟩ := I0.cell y c z
      exact there0 _ o ho
    · exact there0 _ _ (I0.pin p z).1
  refine store_ok2 (X := X.suite e) (I7.suite e) hN hi (.inl hl) (v := .ref e) rfl (fun s8 I8 _ => ?_) (.inr hl)
  refine wpAny_mono (hs e pins s8 _ _ _ I8 (q e F.new)) (fun f s9 q9 => ?_) fun _ _ z => False.elim z
  show wpAny _ _ (do bindName X.env n .none; unbindBehindTheSuite X.env n hpos) (fun _ s3 => SP X pins Z f s3) X.xe s9
  cases f with
  | next => obtain ⟨σ9, H9, I9, q9⟩ := q9; exact (I9.unsuite I.ok).goes hi hN hl fun s' I' => ⟨_, H9, I', q9⟩
  | brk => obtain ⟨σ9, H9, I9, q9⟩ := q9; exact (I9.unsuite I.ok).goes hi hN hl fun s' I' => ⟨_, H9, I', q9⟩
  | cont => obtain ⟨σ9, H9, I9, q9⟩ := q9; exact (I9.unsuite I.ok).goes hi hN hl fun s' I' => ⟨_, H9, I', q9⟩
  | ret u => obtain ⟨v, σ9, H9, I9, r9, q9⟩ := q9; exact (I9.unsuite I.ok).goes hi hN hl fun s' I' => ⟨v, _, H9, I', r9, q9⟩
end
end L2
namespace L2
open PySem PySem.Spec PyProof.Rows
structure Exi (K : PySem.W.Frag) (C : Addr) : Prop where
  ok : PySem.W.excIn K C valueErr "ValueError.__new__" = true
  cls : (PySem.W.clsIn K C).isSome = true
  ga : PySem.W.findIn K (.ref C) "__getattribute__" = some (some (.builtin "BaseException.__getattribute__"))
  gt : PySem.W.findIn K (.ref C) "__getattr__" = some none
  cl : PySem.W.findIn K (.ref C) "__class__" = some (some (.builtin "object.__class__"))
section
variable {prog : Program} {w : World} {A : Around} {E : Value → Shared → Prop} {h : Heap} {g : Array GenState} {d : Drawn} {t : Nat} {os : OsState} {a C : Addr} {o : Obj} {K : PySem.W.Frag}
theorem exi_sub {M : Model} {T : String} {Q : Bool → Shared → Prop} (X : K.In h) (x : Exi K C) (hT : valueErr.contains (.type T) = true) (hq : Q true ⟨h, g, d, t, os⟩) : wpAny M A (isSubtype (.ref C) (.type T)) Q E ⟨h, g, d, t, os⟩ := by
  obtain ⟨bm, N, nm, q, bs, hdct, sn, sub, ab, col, dd, k0, k1, k2, k3, k5, mN, hC, hN, hni, T'⟩ := own_obj X x.ok
  have hc : (Value.ref C :: bm).contains (.type T) = true := by rw [List.contains_cons, T'.hasType hT, Bool.or_true]
  refine wpAny_isSubtype_exc hC ?_
  rw [hc]
  exact hq
theorem exi_get {R : Result → Shared → Prop} (X : K.In h) (x : Exi K C) (hx : h.get? a = some o) (hc : o.cls = .ref C) (hq : R (.ok (.ret (.ref C))) ⟨h, g, d, t, os⟩) :
    codeAny (model prog w) A (.call (.builtin "getset_descriptor.__get__") ⟨[.builtin "object.__class__", .ref a, .ref C], []⟩) R ⟨h, g, d, t, os⟩ := by
  have hT5 : (⟨h, g, d, t, os⟩ : Shared).TypeIs (.builtin "object.__class__") "getset_descriptor" := F.typeOf_object_class
  refine codeAny_call_builtin F.slot_gs_get.plain F.entry_gs_get (F.slot_gs_get.check _ _ _ _ _ _ _ _ hT5 (F.args_gs_get _ _ _) ?_)
  repeat (any_goals (first | assumption | (with_reducible refine wpAny_loadPart_at hx ?_; rw [hc]) | (rw [F.owner_object_class]; with_reducible refine exi_sub X x (by decide) ?_) | wp_step))
  refine ⟨Code.quiet_builtin _ (by decide +kernel), codeAny_builtin F.entry_object_class ?_⟩
  repeat (any_goals (first | assumption | (with_reducible refine wpAny_loadPart_at hx ?_; rw [hc]) | wp_step))
theorem exi_entry {tk : Tok} {Q : Fin → Shared → Prop} (X : K.In h) (x : Exi K C) (hx : h.get? a = some o) (hc : o.cls = .ref C) (hq : Q (.done (.ret (.ref C))) ⟨h, g, d, t, os⟩) :
    wpAny (model prog w) A (Builtin.«object.__getattribute__» ⟨[.ref a, .str "__class__" tk], []⟩) Q E ⟨h, g, d, t, os⟩ := by
  have hT5 : (⟨h, g, d, t, os⟩ : Shared).TypeIs (.builtin "object.__class__") "getset_descriptor" := F.typeOf_object_class
  have f5 := F.typeOf_object_class
  have f6 := F.slot_gs_get.lookup
  have f7 := F.slot_gs_set.lookup
  have L := PySem.W.looks_findIn (M := model prog w) X x.cl
  repeat (any_goals (first | assumption | (with_reducible refine wpAny_loadPart_at hx ?_; rw [hc]) | with_reducible refine L.at ?_ | wp_step))
  refine exi_get X x hx hc ?_
  repeat (any_goals (first | assumption | wp_step))
theorem exi_check {M : Model} {nameV : Value} {Q : Unit → Shared → Prop} (X : K.In h) (x : Exi K C) (hx : h.get? a = some o) (hc : o.cls = .ref C) (hq : Q () ⟨h, g, d, t, os⟩) :
    wpAny M A (checkBuiltinCall "BaseException.__getattribute__" ⟨[.ref a, nameV], []⟩) Q E ⟨h, g, d, t, os⟩ := by
  have hk : builtinKind "BaseException.__getattribute__" = some .slot := by decide +kernel
  have hsplit : splitId "BaseException.__getattribute__" = some ("BaseException", "__getattribute__") := by decide +kernel
  have ha := F.args_bexc_ga (.ref a) nameV
  simp only [checkBuiltinCall, hk, hsplit]
  refine wpAny_bind ?_
  · unfold isInstance
    repeat (first | (with_reducible refine wpAny_loadPart_at hx ?_; rw [hc]) | (with_reducible refine exi_sub X x (by decide) ?_) | wp_step)
    exact hq
theorem exi_call {tk : Tok} {R : Result → Shared → Prop} (X : K.In h) (x : Exi K C) (hx : h.get? a = some o) (hc : o.cls = .ref C) (hq : R (.ok (.ret (.ref C))) ⟨h, g, d, t, os⟩) :
    codeAny (model prog w) A (.call (.builtin "BaseException.__getattribute__") ⟨[.ref a, .str "__class__" tk], []⟩) R ⟨h, g, d, t, os⟩ :=
  codeAny_call_builtin F.attr_ValueError.ga.plain F.entry_bexc_ga (exi_check X x hx hc (exi_entry X x hx hc hq))
theorem exi_by {tk : Tok} {Q : Value → Shared → Prop} (X : K.In h) (x : Exi K C) (hx : h.get? a = some o) (hc : o.cls = .ref C) (hq : Q (.ref C) ⟨h, g, d, t, os⟩) : wpAny (model prog w) A (getAttrBy (.ref a) (.str "__class__" tk) false) Q E ⟨h, g, d, t, os⟩ := by
  have f3 := F.attr_ValueError.ga.bind (.ref a)
  have hx2 : (Value.builtin "BaseException.__getattribute__" == Value.builtin "object.__getattribute__") = false := by decide +kernel
  have hx1 : (onTheHeap (Value.ref C) && Value.builtin "BaseException.__getattribute__" == Value.builtin "object.__getattribute__") = false := by rw [hx2]; rfl
  have L1 := PySem.W.looks_findIn (M := model prog w) X x.ga
  have L2' := PySem.W.looks_findIn (M := model prog w) X x.gt
  repeat (any_goals (first | assumption | (with_reducible refine wpAny_loadPart_at hx ?_; rw [hc]) | with_reducible refine L1.at ?_ | with_reducible refine L2'.at ?_ | wp_step))
  refine exi_call X x hx hc ?_
  repeat (any_goals (first | assumption | wp_step))
theorem exi_attr {Q : Option Value → Shared → Prop} (X : K.In h) (x : Exi K C) (hx : h.get? a = some o) (hc : o.cls = .ref C) (hq : Q (some (.ref C)) ⟨h, g, d, t + 1, os⟩) : wpAny (model prog w) A (getAttr? (.ref a) "__class__") Q E ⟨h, g, d, t, os⟩ := by
  unfold getAttr? getAttrBy?
  repeat (any_goals (first | assumption | with_reducible apply exi_by X x hx hc | wp_step))
end
noncomputable def ExcAt (e C : Addr) (h : Heap) : Prop := ∃ o, h.get? e = some o ∧ o.cls = .ref C
theorem kitx_exc {K : PySem.W.Frag} {e C : Addr} (x : Exi K C) : PySem.W.KitX K (.ref e) (.ref C) (ExcAt e C) where
  ty := fun M h _ p => by
    obtain ⟨o, h1, h2⟩ := p
    exact h2 ▸ (PySem.W.Looks.ld h1).andThen .now
  it := fun _ _ X _ => by
    have hcD := x.cls
    unfold PySem.W.clsIn at hcD
    split at hcD
    · rename_i c' d' cd' sl' ho
      intro A' Q' E' s' k q
      unfold isType loadHead
      exact wpAny_bind (wpAny_loadPart (k _ _ (X _ _ ho)) (wpAny_pure q))
    · cases hcD
  ne := fun h tp dd its n sl X htp => by
    have hcD := x.cls
    refine Bool.eq_false_iff.mpr fun q => ?_
    have e : C = tp := Value.ref.inj (beq_iff_eq.mp q)
    subst e
    unfold PySem.W.clsIn at hcD
    split at hcD
    · rename_i c' d' cd' sl' ho
      have z := (X _ _ ho).symm.trans htp
      cases z
    · cases hcD
  ca := fun {_ _ _ _ _ s} X p k => by
    obtain ⟨h, g, d, t, os⟩ := s
    obtain ⟨o, h1, h2⟩ := p
    exact exi_attr X x h1 h2 k
theorem call_isinE {X : Cx} : CallR X (.builtin "isinstance") (fun xs H Q => ∃ e C c b, xs = [.ref e, c] ∧ H e = some (excO e (.ref C)) ∧ Exi X.K C ∧ (∃ u, RelV c u ∧ (∀ u', RelV c u' → u' = u) ∧ PySem.W.kitOne X.K (.ref C) u = some b) ∧ Q (.bl b) H) := by
  intro pins s σ H xs us Q I r h
  obtain ⟨e, C, c, b, rfl, he, x, ⟨u, ru, uq, k⟩, q⟩ := h
  obtain ⟨v, w', rfl, rv, rw'⟩ := vals2 r
  cases (show v = Value.ref e from rv)
  rw [uq w' rw']
  obtain ⟨p, _, _⟩ := (show ObjOk X.prog X.w H s.heap e (excO e (.ref C)) from I.hok e _ he)
  exact PySem.W.kia_one (kitx_exc x) I.kIn p k (fun z => nomatch z) fun tk => ⟨.bl b, H, I.tok _, rfl, q⟩
end L2
namespace Mth
noncomputable def worthF : List Int → Int
  | [] => 0
  | x :: r => 2 * worthF r + x
noncomputable def apart : Bool → List Int → Bool
  | _, [] => true
  | b, x :: r => if x = 2 then (if b then false else apart true r) else if x < 1 then apart false r else apart b r
noncomputable def parted2 : List Int → Bool
  | [] => true
  | x :: r => if x < 1 then true else if x = 2 then false else parted2 r
noncomputable def isFig (x : Int) : Bool := decide (-1 ≤ x) && decide (x ≤ 2)
noncomputable def each2 : List Int → Bool
  | [] => true
  | x :: r => (!decide (x = 2) || parted2 r) && each2 r
theorem apart_eq : ∀ (b : Bool) (l : List Int), apart b l = ((!b || parted2 l) && each2 l)
  | b, [] => by cases b <;> rfl
  | b, x :: r => by
    have h1 := apart_eq true r
    have h2 := apart_eq false r
    have h3 := apart_eq b r
    unfold apart parted2 each2
    by_cases e : x = 2
    · subst e
      cases b
      · simp [h1]
      · simp
    · by_cases q : x < 1
      · simp [e, q, h2]
      · simp [e, q, h3]
noncomputable def mir (l : List Int) : List Int := l.map fun x => 1 - x
theorem apart2_eq (l : List Int) : apart false l = each2 l := by rw [apart_eq]; simp
noncomputable def endOk (l : List Int) : Bool := !decide (l.getLast? = some 0)
noncomputable def calmF (l : List Int) : Bool := l.all isFig && (endOk l && (apart false l && apart false (mir l)))
end Mth
namespace Mth
end Mth
namespace Mth
noncomputable def st2 : Bool → List Int → Bool
  | b, [] => b
  | b, x :: r => st2 (if x = 2 then true else if x < 1 then false else b) r
theorem st2_snoc : ∀ (b : Bool) (l : List Int) (x : Int), st2 b (l ++ [x]) = (if x = 2 then true else if x < 1 then false else st2 b l)
  | _, [], _ => rfl
  | b, y :: r, x => by simp only [List.cons_append, st2]; exact st2_snoc _ r x
theorem apart_append : ∀ (b : Bool) (l r : List Int), apart b (l ++ r) = (apart b l && apart (st2 b l) r)
  | b, [], r => by simp [apart, st2]
  | b, x :: l, r => by
    have h1 := apart_append true l r
    have h2 := apart_append false l r
    have h3 := apart_append b l r
    simp only [List.cons_append, apart, st2]
    by_cases e : x = 2
    · simp only [e, if_true]
      cases b
      · simpa using h1
      · simp
    · by_cases q : x < 1
      · simp only [e, q, if_false, if_true]; exact h2
      · simp only [e, q, if_false]; exact h3
theorem apart_snoc (b : Bool) (l : List Int) (x : Int) : apart b (l ++ [x]) = (apart b l && !(decide (x = 2) && st2 b l)) := by
  rw [apart_append]
  congr 1
  simp only [apart]
  by_cases e : x = 2
  · simp [e]
  · simp [e]
theorem apart_drop {l : List Int} (k : Nat) (h : apart false l = true) : apart false (l.drop k) = true := by
  rw [apart2_eq] at *
  induction k generalizing l with
  | zero => exact h
  | succ k ih =>
    cases l with
    | nil => exact h
    | cons x r => simp only [each2, Bool.and_eq_true] at h; exact ih h.2
theorem mir_append (l r : List Int) : mir (l ++ r) = mir l ++ mir r := by unfold mir; rw [List.map_append]
theorem mir_drop (l : List Int) (k : Nat) : mir (l.drop k) = (mir l).drop k := by unfold mir; rw [List.map_drop]
theorem mir_cons (x : Int) (l : List Int) : mir (x :: l) = (1 - x) :: mir l := rfl
end Mth
namespace Mth
structure Cm (l : List Int) : Prop where
  figs : ∀ x ∈ l, -1 ≤ x ∧ x ≤ 2
  a2 : apart false l = true
  aM : apart false (mir l) = true
theorem all_isFig (l : List Int) : l.all isFig = true ↔ ∀ x ∈ l, -1 ≤ x ∧ x ≤ 2 := by
  rw [List.all_eq_true]
  constructor
  · intro h x hx
    have := h x hx
    unfold isFig at this
    simpa using this
  · intro h x hx
    unfold isFig
    simpa using h x hx
theorem calmF_iff (l : List Int) : calmF l = true ↔ Cm l ∧ l.getLast? ≠ some 0 := by
  unfold calmF endOk
  simp only [Bool.and_eq_true, all_isFig, Bool.not_eq_true', decide_eq_false_iff_not]
  constructor
  · rintro ⟨a, b, c, d⟩; exact ⟨⟨a, c, d⟩, b⟩
  · rintro ⟨⟨a, c, d⟩, b⟩; exact ⟨a, b, c, d⟩
theorem Cm.nil : Cm [] := ⟨fun _ h => (nomatch h), rfl, rfl⟩
theorem Cm.drop {l : List Int} (h : Cm l) (k : Nat) : Cm (l.drop k) :=
  ⟨fun x hx => h.figs x (List.mem_of_mem_drop hx), apart_drop k h.a2, by rw [mir_drop]; exact apart_drop k h.aM⟩
theorem Cm.front {l r : List Int} (h : Cm (l ++ r)) : Cm l := by
  refine ⟨fun x hx => h.figs x (List.mem_append_left _ hx), ?_, ?_⟩
  · have := h.a2
    rw [apart_append, Bool.and_eq_true] at this
    exact this.1
  · have := h.aM
    rw [mir_append, apart_append, Bool.and_eq_true] at this
    exact this.1
theorem apart_0s (k : Nat) (r : List Int) : apart false (List.replicate k 0 ++ r) = apart false r := by
  induction k with
  | zero => rfl
  | succ k ih =>
    rw [List.replicate_succ, List.cons_append]
    simp only [apart]
    rw [if_neg (by decide), if_pos (by decide)]
    exact ih
theorem apart_1s (b : Bool) (k : Nat) (r : List Int) : apart b (List.replicate k 1 ++ r) = apart b r := by
  induction k with
  | zero => rfl
  | succ k ih =>
    rw [List.replicate_succ, List.cons_append]
    simp only [apart]
    rw [if_neg (by decide), if_neg (by decide)]
    exact ih
theorem mir_0s (k : Nat) : mir (List.replicate k 0) = List.replicate k 1 := by unfold mir; rw [List.map_replicate]; rfl
theorem mir_1s (k : Nat) : mir (List.replicate k 1) = List.replicate k 0 := by unfold mir; rw [List.map_replicate]; rfl
theorem Cm.ones {r : List Int} (h : Cm r) (k : Nat) : Cm (List.replicate k 1 ++ r) := by
  refine ⟨fun x hx => ?_, by rw [apart_1s]; exact h.a2, by rw [mir_append, mir_1s, apart_0s]; exact h.aM⟩
  rcases List.mem_append.mp hx with hx | hx
  · have := List.eq_of_mem_replicate hx; omega
  · exact h.figs x hx
theorem Cm.one {r : List Int} (h : Cm r) : Cm (1 :: r) := by have := h.ones 1; exact this
theorem Cm.two {r : List Int} (h : Cm r) (p : parted2 r = true) : Cm (2 :: r) := by
  refine ⟨fun x hx => ?_, ?_, ?_⟩
  · rcases List.mem_cons.mp hx with hx | hx
    · omega
    · exact h.figs x hx
  · have h2 := h.a2
    rw [apart2_eq] at h2 ⊢
    simp only [each2, Bool.and_eq_true]
    exact ⟨by simp [p], h2⟩
  · rw [mir_cons]
    simp only [apart]
    rw [if_neg (by decide), if_pos (by decide)]
    exact h.aM
structure MC (acc : List Int) (two low : Bool) : Prop where
  cm : Cm acc
  f2 : st2 false acc = !two
  fM : st2 false (mir acc) = !low
theorem MC.start : MC [] true true := ⟨Cm.nil, rfl, rfl⟩
theorem MC.step {acc : List Int} {two low two' low' : Bool} {z : Int} (h : MC acc two low) (h1 : -1 ≤ z) (h2 : z ≤ 2) (g2 : z = 2 → two = true) (gM : z = -1 → low = true)
    (e2 : two' = (!decide (z = 2) && (two || decide (z < 1)))) (eM : low' = (!decide (z = -1) && (low || decide (z > 0)))) : MC (acc ++ [z]) two' low' := by
  obtain ⟨⟨hf, a2, aM⟩, f2, fM⟩ := h
  have em : mir (acc ++ [z]) = mir acc ++ [1 - z] := by rw [mir_append]; rfl
  refine ⟨⟨fun x hx => ?_, ?_, ?_⟩, ?_, ?_⟩
  · rcases List.mem_append.mp hx with hx | hx
    · exact hf x hx
    · have : x = z := List.mem_singleton.mp hx
      omega
  · rw [apart_snoc, a2, f2]
    by_cases q : z = 2
    · simp [g2 q]
    · simp [q]
  · rw [em, apart_snoc, aM, fM]
    by_cases q : z = -1
    · simp [gM q]
    · have : ¬ (1 - z = 2) := by omega
      simp [this]
  · rw [st2_snoc, f2, e2]
    by_cases q : z = 2
    · simp [q]
    · by_cases p : z < 1
      · simp [q, p]
      · simp [q, p]
  · rw [em, st2_snoc, fM, eM]
    by_cases q : z = -1
    · subst q; simp
    · have q' : ¬ (1 - z = 2) := by omega
      by_cases p : z > 0
      · have p' : 1 - z < 1 := by omega
        simp [q, q', p, p']
      · have p' : ¬ (1 - z < 1) := by omega
        simp [q, q', p, p']
theorem calm_end {acc : List Int} (h : Cm acc) (e : acc.getLast? ≠ some 0) : calmF acc = true := (calmF_iff acc).mpr ⟨h, e⟩
end Mth
namespace Mth
noncomputable def bump (d : Int) : List Int → List Int
  | [] => [d]
  | x :: r => (x + d) :: r
noncomputable def fixUp : List Int → List Int
  | [] => []
  | x :: r => if x = 2 then 0 :: bump 1 r else if x = 1 then 1 :: fixUp r else x :: r
noncomputable def fixDn : List Int → List Int
  | [] => []
  | x :: r => if x = -1 then 1 :: bump (-1) r else if x = 0 then 0 :: fixDn r else x :: r
theorem apart_weak {b : Bool} {l : List Int} (h : apart b l = true) (b' : Bool) (hb : b' = true → b = true) : apart b' l = true := by
  rw [apart_eq, Bool.and_eq_true] at *
  refine ⟨?_, h.2⟩
  cases b'
  · rfl
  · rw [hb rfl] at h
    exact h.1
theorem apart_no {b : Bool} {l : List Int} (h : apart b l = true) : apart false l = true := apart_weak h false (fun e => (nomatch e))
noncomputable def Fg (l : List Int) : Prop := ∀ x ∈ l, -1 ≤ x ∧ x ≤ 2
theorem Fg.head {x : Int} {r : List Int} (h : Fg (x :: r)) : -1 ≤ x ∧ x ≤ 2 := h x List.mem_cons_self
theorem Fg.tail {x : Int} {r : List Int} (h : Fg (x :: r)) : Fg r := fun y hy => h y (List.mem_cons_of_mem _ hy)
theorem Fg.cons {x : Int} {r : List Int} (h1 : -1 ≤ x) (h2 : x ≤ 2) (h : Fg r) : Fg (x :: r) := fun y hy => by
  rcases List.mem_cons.mp hy with e | hy
  · omega
  · exact h y hy
theorem apart_two (b : Bool) (r : List Int) : apart b (2 :: r) = (!b && apart true r) := by
  simp only [apart, if_true]
  cases b <;> simp
theorem apart_one (b : Bool) (r : List Int) : apart b (1 :: r) = apart b r := by
  simp only [apart]
  rw [if_neg (by decide), if_neg (by decide)]
theorem apart_low (b : Bool) {x : Int} (h : x < 1) (r : List Int) : apart b (x :: r) = apart false r := by
  simp only [apart]
  rw [if_neg (by omega), if_pos h]
theorem bump_fg {l : List Int} (hf : Fg l) (h : apart true l = true) : Fg (bump 1 l) := by
  cases l with
  | nil => exact fun x hx => by have := List.mem_singleton.mp hx; omega
  | cons g r =>
    have hg := hf.head
    refine Fg.cons (by omega) ?_ hf.tail
    by_cases e : g = 2
    · subst e; rw [apart_two] at h; cases h
    · omega
theorem bump_ok {l : List Int} (hf : Fg l) (h : apart true l = true) : apart false (bump 1 l) = true := by
  cases l with
  | nil => rfl
  | cons g r =>
    have hg := hf.head
    show apart false ((g + 1) :: r) = true
    have c : g = -1 ∨ g = 0 ∨ g = 1 ∨ g = 2 := by omega
    rcases c with e | e | e | e
    · subst e; rw [apart_low _ (by decide)] at h ⊢; exact h
    · subst e; rw [apart_low _ (by decide)] at h; show apart false (1 :: r) = true; rw [apart_one]; exact h
    · subst e; rw [apart_one] at h; show apart false (2 :: r) = true; rw [apart_two]; exact h
    · subst e; rw [apart_two] at h; cases h
theorem bump_okM {l : List Int} {b : Bool} (b' : Bool) (hf : Fg l) (h2 : apart true l = true) (h : apart b (mir l) = true) : apart b' (mir (bump 1 l)) = true := by
  cases l with
  | nil => cases b' <;> rfl
  | cons g r =>
    have hg := hf.head
    have c : g = -1 ∨ g = 0 ∨ g = 1 ∨ g = 2 := by omega
    rw [mir_cons] at h
    show apart b' ((1 - (g + 1)) :: mir r) = true
    rcases c with e | e | e | e
    · subst e
      have h' : apart b (2 :: mir r) = true := h
      rw [apart_two, Bool.and_eq_true] at h'
      show apart b' (1 :: mir r) = true
      rw [apart_one]
      exact apart_weak h'.2 b' fun _ => rfl
    · subst e
      have h' : apart b (1 :: mir r) = true := h
      rw [apart_one] at h'
      rw [apart_low _ (by decide)]
      exact apart_no h'
    · subst e
      rw [apart_low _ (by decide)] at h ⊢
      exact h
    · subst e; rw [apart_two] at h2; cases h2
theorem fix_fg {l : List Int} : Fg l → apart false l = true → Fg (fixUp l) := by
  induction l with
  | nil => intro h _; exact h
  | cons x r ih =>
    intro hf h
    simp only [fixUp]
    by_cases a : x = 2
    · rw [if_pos a]
      subst a
      rw [apart_two] at h
      exact Fg.cons (by decide) (by decide) (bump_fg hf.tail h)
    · rw [if_neg a]
      by_cases b : x = 1
      · rw [if_pos b]
        subst b
        rw [apart_one] at h
        exact Fg.cons (by decide) (by decide) (ih hf.tail h)
      · rw [if_neg b]; exact hf
theorem fix_ok {l : List Int} (b : Bool) : Fg l → apart false l = true → apart b (fixUp l) = true := by
  induction l with
  | nil => intro _ _; cases b <;> rfl
  | cons x r ih =>
    intro hf h
    have hx := hf.head
    simp only [fixUp]
    by_cases a : x = 2
    · rw [if_pos a]
      subst a
      rw [apart_two] at h
      rw [apart_low _ (by decide)]
      exact bump_ok hf.tail h
    · rw [if_neg a]
      by_cases c : x = 1
      · rw [if_pos c]
        subst c
        rw [apart_one] at h ⊢
        exact ih hf.tail h
      · rw [if_neg c]
        rw [apart_low _ (by omega)] at h ⊢
        exact h
theorem fix_okM {l : List Int} : ∀ {b : Bool}, Fg l → apart false l = true → apart b (mir l) = true → apart false (mir (fixUp l)) = true := by
  induction l with
  | nil => intro b _ _ _; rfl
  | cons x r ih =>
    intro b hf h hm
    have hx := hf.head
    simp only [fixUp]
    by_cases a : x = 2
    · rw [if_pos a]
      subst a
      rw [apart_two] at h
      rw [mir_cons, apart_low _ (by decide)] at hm
      show apart false (1 :: mir (bump 1 r)) = true
      rw [apart_one]
      exact bump_okM false hf.tail h hm
    · rw [if_neg a]
      by_cases c : x = 1
      · rw [if_pos c]
        subst c
        rw [apart_one] at h
        rw [mir_cons, apart_low _ (by decide)] at hm ⊢
        exact ih hf.tail h hm
      · rw [if_neg c]
        exact apart_no hm
noncomputable def addP (lo : List Int) (f : Int) (hi : List Int) : List Int :=
  if f = 2 then lo ++ 1 :: bump 1 hi
  else if f = -1 then lo ++ 0 :: hi
  else if f = 0 then lo ++ 1 :: fixUp hi
  else if st2 false lo then lo ++ 0 :: bump 1 hi
  else lo ++ 2 :: fixUp hi
theorem cm_parts {lo hi : List Int} {f : Int} (h : Cm (lo ++ f :: hi)) : Fg lo ∧ (-1 ≤ f ∧ f ≤ 2) ∧ Fg hi ∧ apart false lo = true ∧ apart (st2 false lo) (f :: hi) = true ∧ apart false (mir lo) = true ∧ apart (st2 false (mir lo)) (mir (f :: hi)) = true := by
  have h2 := h.a2
  have hM := h.aM
  rw [apart_append, Bool.and_eq_true] at h2
  rw [mir_append, apart_append, Bool.and_eq_true] at hM
  exact ⟨fun x hx => h.figs x (List.mem_append_left _ hx), h.figs f (List.mem_append_right _ List.mem_cons_self), fun x hx => h.figs x (List.mem_append_right _ (List.mem_cons_of_mem _ hx)), h2.1, h2.2, hM.1, hM.2⟩
theorem cm_join {lo hi : List Int} {f : Int} (g1 : Fg lo) (g2 : -1 ≤ f ∧ f ≤ 2) (g3 : Fg hi) (a : apart false lo = true) (b : apart (st2 false lo) (f :: hi) = true) (c : apart false (mir lo) = true) (d : apart (st2 false (mir lo)) (mir (f :: hi)) = true) : Cm (lo ++ f :: hi) := by
  refine ⟨fun x hx => ?_, by rw [apart_append, a, b]; rfl, by rw [mir_append, apart_append, c, d]; rfl⟩
  rcases List.mem_append.mp hx with hx | hx
  · exact g1 x hx
  · exact (Fg.cons g2.1 g2.2 g3) x hx
theorem add_calm {lo hi : List Int} {f : Int} (h : Cm (lo ++ f :: hi)) : Cm (addP lo f hi) := by
  obtain ⟨g1, g2, g3, a, b, c, d⟩ := cm_parts h
  rw [mir_cons] at d
  unfold addP
  by_cases e1 : f = 2
  · rw [if_pos e1]
    subst e1
    rw [apart_two, Bool.and_eq_true] at b
    have hs : st2 false lo = false := by simpa using b.1
    rw [apart_low _ (by decide)] at d
    refine cm_join g1 ⟨by decide, by decide⟩ (bump_fg g3 b.2) a (by rw [apart_one, hs]; exact bump_ok g3 b.2) c ?_
    rw [mir_cons, apart_low _ (by decide)]
    exact bump_okM false g3 b.2 d
  · rw [if_neg e1]
    by_cases e2 : f = -1
    · rw [if_pos e2]
      subst e2
      rw [apart_low _ (by decide)] at b
      have d' : apart (st2 false (mir lo)) (2 :: mir hi) = true := d
      rw [apart_two, Bool.and_eq_true] at d'
      have hs : st2 false (mir lo) = false := by simpa using d'.1
      refine cm_join g1 ⟨by decide, by decide⟩ g3 a (by rw [apart_low _ (by decide)]; exact b) c ?_
      show apart (st2 false (mir lo)) (1 :: mir hi) = true
      rw [apart_one, hs]
      exact apart_no d'.2
    · rw [if_neg e2]
      by_cases e3 : f = 0
      · rw [if_pos e3]
        subst e3
        rw [apart_low _ (by decide)] at b
        have d' : apart (st2 false (mir lo)) (1 :: mir hi) = true := d
        rw [apart_one] at d'
        refine cm_join g1 ⟨by decide, by decide⟩ (fix_fg g3 b) a (by rw [apart_one]; exact fix_ok _ g3 b) c ?_
        rw [mir_cons, apart_low _ (by decide)]
        exact fix_okM g3 b d'
      · rw [if_neg e3]
        have e4 : f = 1 := by omega
        subst e4
        rw [apart_one] at b
        rw [apart_low _ (by decide)] at d
        by_cases e5 : st2 false lo = true
        · rw [if_pos e5]
          rw [e5] at b
          refine cm_join g1 ⟨by decide, by decide⟩ (bump_fg g3 b) a (by rw [apart_low _ (by decide)]; exact bump_ok g3 b) c ?_
          show apart (st2 false (mir lo)) (1 :: mir (bump 1 hi)) = true
          rw [apart_one]
          exact bump_okM _ g3 b d
        · rw [if_neg e5]
          have hs : st2 false lo = false := by simpa using e5
          rw [hs] at b
          refine cm_join g1 ⟨by decide, by decide⟩ (fix_fg g3 b) a (by rw [apart_two, hs]; exact fix_ok true g3 b) c ?_
          rw [mir_cons, apart_low _ (by decide)]
          exact fix_okM g3 b d
theorem mir_mir (l : List Int) : mir (mir l) = l := by
  unfold mir
  rw [List.map_map]
  have e : ((fun x : Int => 1 - x) ∘ fun x => 1 - x) = id := by funext x; show 1 - (1 - x) = x; omega
  rw [e, List.map_id]
theorem Fg.mir {l : List Int} (h : Fg l) : Fg (mir l) := fun x hx => by
  unfold Mth.mir at hx
  obtain ⟨y, hy, e⟩ := List.mem_map.mp hx
  have := h y hy
  omega
theorem mir_bump (g : Int) (r : List Int) : mir (bump (-1) (g :: r)) = bump 1 (mir (g :: r)) := by
  show (1 - (g + -1)) :: mir r = (1 - g + 1) :: mir r
  have e : 1 - (g + -1) = 1 - g + 1 := by omega
  rw [e]
theorem bumpD_fg {l : List Int} (hf : Fg l) (h : apart true (mir l) = true) : Fg (bump (-1) l) := by
  cases l with
  | nil => exact fun x hx => by have := List.mem_singleton.mp hx; omega
  | cons g r =>
    have := (bump_fg hf.mir h)
    rw [← mir_bump] at this
    have q := this.mir
    rw [mir_mir] at q
    exact q
theorem bumpD_okM {l : List Int} (hf : Fg l) (h : apart true (mir l) = true) : apart false (mir (bump (-1) l)) = true := by
  cases l with
  | nil => rfl
  | cons g r => rw [mir_bump]; exact bump_ok hf.mir h
theorem bumpD_ok2 {l : List Int} {b : Bool} (b' : Bool) (hf : Fg l) (hM : apart true (mir l) = true) (h : apart b l = true) : apart b' (bump (-1) l) = true := by
  cases l with
  | nil => cases b' <;> rfl
  | cons g r =>
    have q := bump_okM (b := b) b' hf.mir hM (by rw [mir_mir]; exact h)
    rw [← mir_bump, mir_mir] at q
    exact q
theorem fixD_fg {l : List Int} : Fg l → apart false (mir l) = true → Fg (fixDn l) := by
  induction l with
  | nil => intro h _; exact h
  | cons x r ih =>
    intro hf h
    rw [mir_cons] at h
    simp only [fixDn]
    by_cases a : x = -1
    · rw [if_pos a]
      subst a
      have h' : apart false (2 :: mir r) = true := h
      rw [apart_two] at h'
      exact Fg.cons (by decide) (by decide) (bumpD_fg hf.tail h')
    · rw [if_neg a]
      by_cases b : x = 0
      · rw [if_pos b]
        subst b
        have h' : apart false (1 :: mir r) = true := h
        rw [apart_one] at h'
        exact Fg.cons (by decide) (by decide) (ih hf.tail h')
      · rw [if_neg b]; exact hf
theorem fixD_okM {l : List Int} (b : Bool) : Fg l → apart false (mir l) = true → apart b (mir (fixDn l)) = true := by
  induction l with
  | nil => intro _ _; cases b <;> rfl
  | cons x r ih =>
    intro hf h
    have hx := hf.head
    rw [mir_cons] at h
    simp only [fixDn]
    by_cases a : x = -1
    · rw [if_pos a]
      subst a
      have h' : apart false (2 :: mir r) = true := h
      rw [apart_two] at h'
      rw [mir_cons, apart_low _ (by decide)]
      exact bumpD_okM hf.tail h'
    · rw [if_neg a]
      by_cases c : x = 0
      · rw [if_pos c]
        subst c
        have h' : apart false (1 :: mir r) = true := h
        rw [apart_one] at h'
        show apart b (1 :: mir (fixDn r)) = true
        rw [apart_one]
        exact ih hf.tail h'
      · rw [if_neg c]
        rw [apart_low _ (by omega)] at h
        rw [mir_cons, apart_low _ (by omega)]
        exact h
theorem fixD_ok2 {l : List Int} : ∀ {b : Bool}, Fg l → apart false (mir l) = true → apart b l = true → apart false (fixDn l) = true := by
  induction l with
  | nil => intro b _ _ _; rfl
  | cons x r ih =>
    intro b hf hM h
    have hx := hf.head
    rw [mir_cons] at hM
    simp only [fixDn]
    by_cases a : x = -1
    · rw [if_pos a]
      subst a
      have h' : apart false (2 :: mir r) = true := hM
      rw [apart_two] at h'
      rw [apart_low _ (by decide)] at h
      rw [apart_one]
      exact bumpD_ok2 false hf.tail h' h
    · rw [if_neg a]
      by_cases c : x = 0
      · rw [if_pos c]
        subst c
        have h' : apart false (1 :: mir r) = true := hM
        rw [apart_one] at h'
        rw [apart_low _ (by decide)] at h ⊢
        exact ih hf.tail h' h
      · rw [if_neg c]
        exact apart_no h
noncomputable def takeP (lo : List Int) (f : Int) (hi : List Int) : List Int :=
  if f = -1 then lo ++ 0 :: bump (-1) hi
  else if f = 2 then lo ++ 1 :: hi
  else if f = 1 then lo ++ 0 :: fixDn hi
  else if st2 false (mir lo) then lo ++ 1 :: bump (-1) hi
  else lo ++ (-1) :: fixDn hi
theorem take_calm {lo hi : List Int} {f : Int} (h : Cm (lo ++ f :: hi)) : Cm (takeP lo f hi) := by
  obtain ⟨g1, g2, g3, a, b, c, d⟩ := cm_parts h
  rw [mir_cons] at d
  unfold takeP
  by_cases e1 : f = -1
  · rw [if_pos e1]
    subst e1
    have d' : apart (st2 false (mir lo)) (2 :: mir hi) = true := d
    rw [apart_two, Bool.and_eq_true] at d'
    have hs : st2 false (mir lo) = false := by simpa using d'.1
    rw [apart_low _ (by decide)] at b
    refine cm_join g1 ⟨by decide, by decide⟩ (bumpD_fg g3 d'.2) a (by rw [apart_low _ (by decide)]; exact bumpD_ok2 false g3 d'.2 b) c ?_
    show apart (st2 false (mir lo)) (1 :: mir (bump (-1) hi)) = true
    rw [apart_one, hs]
    exact bumpD_okM g3 d'.2
  · rw [if_neg e1]
    by_cases e2 : f = 2
    · rw [if_pos e2]
      subst e2
      rw [apart_two, Bool.and_eq_true] at b
      have hs : st2 false lo = false := by simpa using b.1
      refine cm_join g1 ⟨by decide, by decide⟩ g3 a (by rw [apart_one, hs]; exact apart_no b.2) c ?_
      rw [apart_low _ (by decide)] at d
      rw [mir_cons, apart_low _ (by decide)]
      exact d
    · rw [if_neg e2]
      by_cases e3 : f = 1
      · rw [if_pos e3]
        subst e3
        rw [apart_one] at b
        rw [apart_low _ (by decide)] at d
        refine cm_join g1 ⟨by decide, by decide⟩ (fixD_fg g3 d) a (by rw [apart_low _ (by decide)]; exact fixD_ok2 g3 d b) c ?_
        show apart (st2 false (mir lo)) (1 :: mir (fixDn hi)) = true
        rw [apart_one]
        exact fixD_okM _ g3 d
      · rw [if_neg e3]
        have e4 : f = 0 := by omega
        subst e4
        rw [apart_low _ (by decide)] at b
        have d' : apart (st2 false (mir lo)) (1 :: mir hi) = true := d
        rw [apart_one] at d'
        by_cases e5 : st2 false (mir lo) = true
        · rw [if_pos e5]
          rw [e5] at d'
          refine cm_join g1 ⟨by decide, by decide⟩ (bumpD_fg g3 d') a (by rw [apart_one]; exact bumpD_ok2 _ g3 d' b) c ?_
          rw [mir_cons, apart_low _ (by decide)]
          exact bumpD_okM g3 d'
        · rw [if_neg e5]
          have hs : st2 false (mir lo) = false := by simpa using e5
          rw [hs] at d'
          refine cm_join g1 ⟨by decide, by decide⟩ (fixD_fg g3 d') a (by rw [apart_low _ (by decide)]; exact fixD_ok2 g3 d' b) c ?_
          show apart (st2 false (mir lo)) (2 :: mir (fixDn hi)) = true
          rw [apart_two, hs]
          exact fixD_okM true g3 d'
end Mth
namespace Mth
noncomputable def fig (l : List Int) (i : Nat) : Int := l.getD i 0
theorem fig_nil (i : Nat) : fig [] i = 0 := rfl
theorem fig_zero (x : Int) (r : List Int) : fig (x :: r) 0 = x := rfl
theorem fig_succ (x : Int) (r : List Int) (i : Nat) : fig (x :: r) (i + 1) = fig r i := rfl
theorem fig_beyond {l : List Int} {i : Nat} (h : l.length ≤ i) : fig l i = 0 := by
  unfold fig; rw [List.getD_eq_getElem?_getD, List.getElem?_eq_none h]; rfl
theorem fig_at {l : List Int} {i : Nat} {z : Int} (h : l[i]? = some z) : fig l i = z := by
  unfold fig; rw [List.getD_eq_getElem?_getD, h]; rfl
theorem fig_app (l m : List Int) (i : Nat) : fig (l ++ m) i = if i < l.length then fig l i else fig m (i - l.length) := by
  unfold fig
  rw [List.getD_eq_getElem?_getD, List.getD_eq_getElem?_getD, List.getD_eq_getElem?_getD, List.getElem?_append]
  split <;> rfl
theorem fig_zeros (k i : Nat) : fig (List.replicate k 0) i = 0 := by
  unfold fig; rw [List.getD_eq_getElem?_getD, List.getElem?_replicate]; split <;> rfl
theorem fig_drop (l : List Int) (k i : Nat) : fig (l.drop k) i = fig l (k + i) := by
  unfold fig; rw [List.getD_eq_getElem?_getD, List.getD_eq_getElem?_getD, List.getElem?_drop]
theorem fig_pad (l : List Int) (k i : Nat) : fig (l ++ List.replicate k 0) i = fig l i := by
  rw [fig_app]
  split
  · rfl
  · rw [fig_zeros, fig_beyond (by omega)]
noncomputable def trim : List Int → List Int
  | [] => []
  | x :: r => if x = 0 ∧ trim r = [] then [] else x :: trim r
theorem fig_trim : ∀ (l : List Int) (i : Nat), fig (trim l) i = fig l i
  | [], _ => rfl
  | x :: r, i => by
    simp only [trim]
    by_cases h : x = 0 ∧ trim r = []
    · rw [if_pos h]
      cases i with
      | zero => rw [fig_zero, h.1]; rfl
      | succ i => rw [fig_succ, ← fig_trim r i, h.2, fig_nil, fig_nil]
    · rw [if_neg h]
      cases i with
      | zero => rfl
      | succ i => rw [fig_succ, fig_succ, fig_trim r i]
theorem trim_zero {l : List Int} : (∀ i, fig l i = 0) → trim l = [] := by
  induction l with
  | nil => intro _; rfl
  | cons x r ih =>
    intro h
    simp only [trim]
    rw [if_pos ⟨h 0, ih fun i => h (i + 1)⟩]
theorem trim_ext : ∀ {l m : List Int}, (∀ i, fig l i = fig m i) → trim l = trim m
  | [], m, h => by rw [trim_zero (l := m) fun i => (h i).symm]; rfl
  | x :: r, [], h => by rw [trim_zero (l := x :: r) fun i => h i]; rfl
  | x :: r, y :: q, h => by
    have h0 : x = y := h 0
    have ih := trim_ext (l := r) (m := q) fun i => h (i + 1)
    simp only [trim, h0, ih]
theorem trim_last : ∀ l : List Int, (trim l).getLast? ≠ some 0
  | [] => by simp [trim]
  | x :: r => by
    have ih := trim_last r
    simp only [trim]
    by_cases h : x = 0 ∧ trim r = []
    · rw [if_pos h]; simp
    · rw [if_neg h]
      cases e : trim r with
      | nil => rw [e] at h; simp at h; simpa using h
      | cons y q => rw [e] at ih; rw [List.getLast?_cons_cons]; exact ih
theorem trim_id : ∀ {l : List Int}, l.getLast? ≠ some 0 → trim l = l
  | [], _ => rfl
  | [x], h => by
    have : x ≠ 0 := by simpa using h
    simp [trim, this]
  | x :: y :: q, h => by
    rw [List.getLast?_cons_cons] at h
    have ih := trim_id h
    have e : trim (x :: y :: q) = if x = 0 ∧ trim (y :: q) = [] then [] else x :: trim (y :: q) := rfl
    rw [e, if_neg (fun z => by rw [ih] at z; cases z.2), ih]
theorem trim_snoc0 (l : List Int) : trim (l ++ [0]) = trim l := trim_ext fun i => fig_pad l 1 i
theorem row_ext {l m : List Int} (h1 : l.getLast? ≠ some 0) (h2 : m.getLast? ≠ some 0) (h : ∀ i, fig l i = fig m i) : l = m := by
  rw [← trim_id h1, ← trim_id h2]; exact trim_ext h
theorem trim_split : ∀ l : List Int, ∃ k, l = trim l ++ List.replicate k 0
  | [] => ⟨0, rfl⟩
  | x :: r => by
    obtain ⟨k, hk⟩ := trim_split r
    simp only [trim]
    by_cases h : x = 0 ∧ trim r = []
    · rw [if_pos h]
      refine ⟨k + 1, ?_⟩
      rw [h.2, List.nil_append] at hk
      rw [List.nil_append, List.replicate_succ, ← hk, h.1]
    · rw [if_neg h]
      refine ⟨k, ?_⟩
      rw [List.cons_append, ← hk]
theorem trim_length (l : List Int) : (trim l).length ≤ l.length := by
  obtain ⟨k, hk⟩ := trim_split l
  have := congrArg List.length hk
  rw [List.length_append] at this
  omega
theorem apart_z (b : Bool) (k : Nat) : apart b (List.replicate k 0) = true := by
  cases k with
  | zero => cases b <;> rfl
  | succ k =>
    rw [List.replicate_succ, apart_low _ (by decide)]
    have := apart_0s k []
    rw [List.append_nil] at this
    exact this
theorem cm_pad {l : List Int} {k : Nat} : Cm (l ++ List.replicate k 0) ↔ Cm l := by
  constructor
  · exact Cm.front
  · intro h
    refine ⟨fun x hx => ?_, ?_, ?_⟩
    · rcases List.mem_append.mp hx with hx | hx
      · exact h.figs x hx
      · have := List.eq_of_mem_replicate hx; omega
    · rw [apart_append, h.a2, apart_z]; rfl
    · rw [mir_append, mir_0s, apart_append, h.aM]
      have := apart_1s (st2 false (mir l)) k []
      rw [List.append_nil] at this
      rw [this]
      cases st2 false (mir l) <;> rfl
theorem cm_trim {l : List Int} : Cm (trim l) ↔ Cm l := by
  obtain ⟨k, hk⟩ := trim_split l
  constructor
  · intro h; rw [hk]; exact cm_pad.mpr h
  · intro h; rw [hk] at h; exact cm_pad.mp h
theorem cm_ext {l m : List Int} (h : ∀ i, fig l i = fig m i) (c : Cm l) : Cm m := by
  rw [← cm_trim, ← trim_ext h, cm_trim]; exact c
theorem calm_trim {l : List Int} (h : Cm l) : calmF (trim l) = true := (calmF_iff _).mpr ⟨cm_trim.mpr h, trim_last l⟩
theorem calm_cm {l : List Int} (h : calmF l = true) : Cm l := ((calmF_iff l).mp h).1
theorem calm_last {l : List Int} (h : calmF l = true) : l.getLast? ≠ some 0 := ((calmF_iff l).mp h).2
noncomputable abbrev Ch := Nat × Int × Int
noncomputable def setF (l : List Int) (p : Nat) (v : Int) : List Int := (l ++ List.replicate (p + 1 - l.length) 0).set p v
theorem fig_setF (l : List Int) (p : Nat) (v : Int) (i : Nat) : fig (setF l p v) i = if i = p then v else fig l i := by
  have hp : p < (l ++ List.replicate (p + 1 - l.length) 0).length := by rw [List.length_append, List.length_replicate]; omega
  unfold setF
  by_cases h : i = p
  · subst h
    rw [if_pos rfl]
    unfold fig
    rw [List.getD_eq_getElem?_getD, List.getElem?_set_self hp]; rfl
  · rw [if_neg h, ← fig_pad l (p + 1 - l.length) i]
    unfold fig
    rw [List.getD_eq_getElem?_getD, List.getElem?_set_ne (by omega), ← List.getD_eq_getElem?_getD]
theorem len_setF (l : List Int) (p : Nat) (v : Int) : (setF l p v).length = max l.length (p + 1) := by
  unfold setF
  rw [List.length_set, List.length_append, List.length_replicate]; omega
noncomputable def putL (l : List Int) (c : List Ch) : List Int := c.foldl (fun l t => setF l t.1 t.2.2) l
noncomputable def putF (l : List Int) (c : List Ch) : List Int := trim (putL l c)
noncomputable def backF (c : List Ch) : List Ch := c.map fun t => (t.1, t.2.2, t.2.1)
theorem putL_snoc (l : List Int) (c : List Ch) (t : Ch) : putL l (c ++ [t]) = setF (putL l c) t.1 t.2.2 := by
  unfold putL; rw [List.foldl_append]; rfl
noncomputable def lookC : List Ch → Nat → Option Int
  | [], _ => none
  | t :: r, i => match lookC r i with
    | some v => some v
    | none => if i = t.1 then some t.2.2 else none
theorem fig_putL (c : List Ch) : ∀ (l : List Int) (i : Nat), fig (putL l c) i = (lookC c i).getD (fig l i) := by
  induction c with
  | nil => intro l i; rfl
  | cons t r ih =>
    intro l i
    show fig (putL (setF l t.1 t.2.2) r) i = _
    rw [ih, fig_setF]
    simp only [lookC]
    cases lookC r i with
    | some v => rfl
    | none =>
      by_cases h : i = t.1
      · rw [if_pos h, if_pos h]; rfl
      · rw [if_neg h, if_neg h]
theorem len_putL (c : List Ch) : ∀ (l : List Int) (n : Nat), l.length ≤ n → (∀ t ∈ c, t.1 < n) → (putL l c).length ≤ n := by
  induction c with
  | nil => intro l n h _; exact h
  | cons t r ih =>
    intro l n h hc
    refine ih _ n ?_ fun u hu => hc u (List.mem_cons_of_mem _ hu)
    rw [len_setF]
    have := hc t List.mem_cons_self
    omega
noncomputable def Told (l : List Int) : Nat → List Ch → Prop
  | _, [] => True
  | k, t :: r => k ≤ t.1 ∧ t.2.1 = fig l t.1 ∧ t.2.2 ≠ fig l t.1 ∧ Told l (t.1 + 1) r
theorem look_back {l : List Int} {c : List Ch} : ∀ {k : Nat}, Told l k c → ∀ i, (lookC (backF c) i).getD ((lookC c i).getD (fig l i)) = fig l i := by
  induction c with
  | nil => intro k _ i; rfl
  | cons t r ih =>
    intro k h i
    obtain ⟨h1, h2, h3, h4⟩ := h
    have q := ih h4 i
    show (lookC ((t.1, t.2.2, t.2.1) :: backF r) i).getD _ = _
    simp only [lookC]
    cases e : lookC (backF r) i with
    | some v =>
      rw [e] at q
      exact q
    | none =>
      rw [e] at q
      have q' : (lookC r i).getD (fig l i) = fig l i := q
      by_cases z : i = t.1
      · rw [if_pos z]
        show t.2.1 = fig l i
        rw [z]; exact h2
      · rw [if_neg z]
        show (match lookC r i with | some v => some v | none => if i = t.1 then some t.2.2 else none).getD (fig l i) = fig l i
        rw [if_neg z]
        cases e2 : lookC r i with
        | some v => rw [e2] at q'; exact q'
        | none => rfl
theorem put_back {l : List Int} {c : List Ch} {k : Nat} (h : Told l k c) (hl : l.getLast? ≠ some 0) : putF (putF l c) (backF c) = l := by
  refine row_ext (trim_last _) hl fun i => ?_
  unfold putF
  rw [fig_trim, fig_putL, fig_trim, fig_putL]
  exact look_back h i
noncomputable def upIx (r : Int) : List Int → Nat
  | [] => 0
  | x :: t => if x = r then upIx r t + 1 else 0
theorem upIx_eq {r x : Int} {t : List Int} (h : x = r) : upIx r (x :: t) = upIx r t + 1 := by
  show (if x = r then upIx r t + 1 else 0) = _
  rw [if_pos h]
theorem upIx_ne {r x : Int} {t : List Int} (h : ¬ x = r) : upIx r (x :: t) = 0 := by
  show (if x = r then upIx r t + 1 else 0) = _
  rw [if_neg h]
noncomputable def belowF (r : Int) (l : List Int) : Nat → Int
  | 0 => r
  | p + 1 => if fig l p = r then belowF r l p else fig l p
noncomputable def atF (r : Int) (l : List Int) (p : Nat) : Nat := p + 1 + upIx r (l.drop (p + 1))
noncomputable def dueF (r : Int) (l : List Int) (p : Nat) : List Ch :=
  if fig l p = 3 * r - 1 ∨ (fig l p = r ∧ belowF r l p = 3 * r - 1) then [(p, fig l p, fig l p - (2 * r - 1)), (p + 1, fig l (p + 1), fig l (p + 1) + (2 * r - 1))]
  else (p, fig l p, fig l p + (2 * r - 1)) :: (if (fig l p = 0 ∨ fig l p = 1) ∧ fig l (atF r l p) = 3 * r - 1 then
    [(atF r l p, 3 * r - 1, 3 * r - 1 - 2 * (2 * r - 1)), (atF r l p + 1, fig l (atF r l p + 1), fig l (atF r l p + 1) + (2 * r - 1))] else [])
theorem due_told {r : Int} (l : List Int) (p : Nat) : Told l p (dueF r l p) ∧ 1 ≤ (dueF r l p).length ∧ (dueF r l p).length ≤ 3 ∧ (dueF r l p).head?.map (·.1) = some p := by
  have ha : p + 1 ≤ atF r l p := Nat.le_add_right _ _
  have step : ∀ x : Int, x - (2 * r - 1) ≠ x ∧ x + (2 * r - 1) ≠ x := fun x => by omega
  unfold dueF
  split
  · exact ⟨⟨Nat.le_refl _, rfl, (step _).1, Nat.le_refl _, rfl, (step _).2, trivial⟩, by simp, by simp, rfl⟩
  · split
    · rename_i h
      refine ⟨⟨Nat.le_refl _, rfl, (step _).2, ha, h.2.symm, ?_, Nat.le_refl _, rfl, (step _).2, trivial⟩, by simp, by simp, rfl⟩
      show 3 * r - 1 - 2 * (2 * r - 1) ≠ fig l (atF r l p)
      rw [h.2]; omega
    · exact ⟨⟨Nat.le_refl _, rfl, (step _).2, trivial⟩, by simp, by simp, rfl⟩
theorem due_places {r : Int} {l : List Int} {p n : Nat} (hp : p + 2 ≤ n) (hl : l.length + 1 ≤ n) : ∀ t ∈ dueF r l p, t.1 < n := by
  have ha : atF r l p + 1 < n ∨ ¬ ((fig l p = 0 ∨ fig l p = 1) ∧ fig l (atF r l p) = 3 * r - 1) := by
    by_cases z : (fig l p = 0 ∨ fig l p = 1) ∧ fig l (atF r l p) = 3 * r - 1
    · left
      have z2 := z.2
      have : atF r l p < l.length := by
        by_cases y : l.length ≤ atF r l p
        · rw [fig_beyond y] at z2; omega
        · omega
      omega
    · exact .inr z
  intro t ht
  unfold dueF at ht
  split at ht
  · simp at ht
    rcases ht with rfl | rfl <;> simp <;> omega
  · split at ht
    · rename_i z
      have ha' : atF r l p + 1 < n := by rcases ha with h | h; exact h; exact absurd z h
      simp at ht
      rcases ht with rfl | rfl | rfl <;> simp <;> omega
    · simp at ht
      subst ht; simp; omega
noncomputable def loF (l : List Int) : Nat → List Int
  | 0 => []
  | p + 1 => loF l p ++ [fig l p]
theorem lo_len (l : List Int) : ∀ p, (loF l p).length = p
  | 0 => rfl
  | p + 1 => by rw [loF, List.length_append, lo_len l p]; rfl
theorem lo_fig (l : List Int) : ∀ p i, i < p → fig (loF l p) i = fig l i
  | 0, i, h => absurd h (Nat.not_lt_zero i)
  | p + 1, i, h => by
    rw [loF, fig_app, lo_len]
    by_cases e : i < p
    · rw [if_pos e, lo_fig l p i e]
    · have : i = p := by omega
      subst this
      rw [if_neg e, Nat.sub_self]; rfl
theorem join_fig (l hi : List Int) (p : Nat) (x : Int) (i : Nat) : fig (loF l p ++ x :: hi) i = if i < p then fig l i else if i = p then x else fig hi (i - (p + 1)) := by
  rw [fig_app, lo_len]
  by_cases e : i < p
  · rw [if_pos e, if_pos e, lo_fig l p i e]
  · rw [if_neg e, if_neg e]
    by_cases z : i = p
    · subst z; rw [if_pos rfl, Nat.sub_self]; rfl
    · rw [if_neg z]
      have : i - p = (i - (p + 1)) + 1 := by omega
      rw [this, fig_succ]
theorem whole_fig (l : List Int) (p i : Nat) : fig (loF l p ++ fig l p :: l.drop (p + 1)) i = fig l i := by
  rw [join_fig]
  split
  · rfl
  · split
    · rename_i h; rw [h]
    · rw [fig_drop]; congr 1; omega
theorem fg_lo {l : List Int} (h : Fg l) : ∀ i, -1 ≤ fig l i ∧ fig l i ≤ 2 := fun i => by
  by_cases e : i < l.length
  · have : fig l i ∈ l := by
      unfold fig; rw [List.getD_eq_getElem?_getD, List.getElem?_eq_getElem e]; exact List.getElem_mem e
    exact h _ this
  · rw [fig_beyond (by omega)]; omega
theorem below_two {l : List Int} (h : ∀ i, -1 ≤ fig l i ∧ fig l i ≤ 2) : ∀ p, st2 false (loF l p) = decide (belowF 1 l p = 2)
  | 0 => rfl
  | p + 1 => by
    have hp := h p
    rw [loF, st2_snoc, below_two h p]
    have e : belowF 1 l (p + 1) = if fig l p = 1 then belowF 1 l p else fig l p := rfl
    by_cases a : fig l p = 2
    · rw [if_pos a, decide_eq_true (by rw [e, if_neg (by omega), a])]
    · rw [if_neg a]
      by_cases b : fig l p < 1
      · rw [if_pos b, decide_eq_false (by rw [e, if_neg (by omega)]; exact a)]
      · rw [if_neg b, e, if_pos (show fig l p = 1 by omega)]
theorem below_low {l : List Int} (h : ∀ i, -1 ≤ fig l i ∧ fig l i ≤ 2) : ∀ p, st2 false (mir (loF l p)) = decide (belowF 0 l p = -1)
  | 0 => rfl
  | p + 1 => by
    have hp := h p
    have e : mir (loF l (p + 1)) = mir (loF l p) ++ [1 - fig l p] := by rw [loF, mir_append]; rfl
    rw [e, st2_snoc, below_low h p]
    have e2 : belowF 0 l (p + 1) = if fig l p = 0 then belowF 0 l p else fig l p := rfl
    by_cases a : fig l p = -1
    · rw [if_pos (by omega), decide_eq_true (by rw [e2, if_neg (by omega), a])]
    · rw [if_neg (by omega)]
      by_cases b : fig l p > 0
      · rw [if_pos (by omega), decide_eq_false (by rw [e2, if_neg (by omega)]; exact a)]
      · rw [if_neg (by omega), e2, if_pos (show fig l p = 0 by omega)]
theorem fig_bump (d : Int) (h : List Int) (j : Nat) : fig (bump d h) j = if j = 0 then fig h 0 + d else fig h j := by
  cases h with
  | nil =>
    cases j with
    | zero => show d = 0 + d; omega
    | succ j => rfl
  | cons x r =>
    cases j with
    | zero => rfl
    | succ j => rfl
theorem fig_fixUp : ∀ (h : List Int) (j : Nat), fig (fixUp h) j = if fig h (upIx 1 h) = 2 then (if j = upIx 1 h then 0 else if j = upIx 1 h + 1 then fig h j + 1 else fig h j) else fig h j
  | [], j => by
    show fig [] j = if (0 : Int) = 2 then _ else fig [] j
    rw [if_neg (by decide)]
  | x :: r, j => by
    have ef : fixUp (x :: r) = if x = 2 then 0 :: bump 1 r else if x = 1 then 1 :: fixUp r else x :: r := rfl
    rw [ef]
    by_cases a : x = 2
    · rw [if_pos a, upIx_ne (show ¬ x = 1 by omega)]
      subst a
      rw [fig_zero, if_pos rfl]
      cases j with
      | zero => rfl
      | succ j =>
        rw [fig_succ, fig_succ, fig_bump, if_neg (show ¬ j + 1 = 0 by omega)]
        by_cases e : j = 0
        · subst e; rw [if_pos rfl, if_pos rfl]
        · rw [if_neg e, if_neg (show ¬ j + 1 = 0 + 1 by omega)]
    · rw [if_neg a]
      by_cases b : x = 1
      · rw [if_pos b, upIx_eq b, fig_succ]
        have ih := fun j => fig_fixUp r j
        cases j with
        | zero =>
          rw [if_neg (show ¬ 0 = upIx 1 r + 1 by omega), if_neg (show ¬ 0 = upIx 1 r + 1 + 1 by omega), fig_zero, fig_zero, b]
          split <;> rfl
        | succ j =>
          rw [fig_succ, fig_succ, ih j]
          by_cases c : fig r (upIx 1 r) = 2
          · rw [if_pos c, if_pos c]
            by_cases d : j = upIx 1 r
            · rw [if_pos d, if_pos (show j + 1 = upIx 1 r + 1 by omega)]
            · rw [if_neg d, if_neg (show ¬ j + 1 = upIx 1 r + 1 by omega)]
              by_cases e : j = upIx 1 r + 1
              · rw [if_pos e, if_pos (show j + 1 = upIx 1 r + 1 + 1 by omega)]
              · rw [if_neg e, if_neg (show ¬ j + 1 = upIx 1 r + 1 + 1 by omega)]
          · rw [if_neg c, if_neg c]
      · rw [if_neg b, upIx_ne b, fig_zero, if_neg a]
theorem fig_fixDn : ∀ (h : List Int) (j : Nat), fig (fixDn h) j = if fig h (upIx 0 h) = -1 then (if j = upIx 0 h then 1 else if j = upIx 0 h + 1 then fig h j + -1 else fig h j) else fig h j
  | [], j => by
    show fig [] j = if (0 : Int) = -1 then _ else fig [] j
    rw [if_neg (by decide)]
  | x :: r, j => by
    have ef : fixDn (x :: r) = if x = -1 then 1 :: bump (-1) r else if x = 0 then 0 :: fixDn r else x :: r := rfl
    rw [ef]
    by_cases a : x = -1
    · rw [if_pos a, upIx_ne (show ¬ x = 0 by omega)]
      subst a
      rw [fig_zero, if_pos rfl]
      cases j with
      | zero => rfl
      | succ j =>
        rw [fig_succ, fig_succ, fig_bump, if_neg (show ¬ j + 1 = 0 by omega)]
        by_cases e : j = 0
        · subst e; rw [if_pos rfl, if_pos rfl]
        · rw [if_neg e, if_neg (show ¬ j + 1 = 0 + 1 by omega)]
    · rw [if_neg a]
      by_cases b : x = 0
      · rw [if_pos b, upIx_eq b, fig_succ]
        have ih := fun j => fig_fixDn r j
        cases j with
        | zero =>
          rw [if_neg (show ¬ 0 = upIx 0 r + 1 by omega), if_neg (show ¬ 0 = upIx 0 r + 1 + 1 by omega), fig_zero, fig_zero, b]
          split <;> rfl
        | succ j =>
          rw [fig_succ, fig_succ, ih j]
          by_cases c : fig r (upIx 0 r) = -1
          · rw [if_pos c, if_pos c]
            by_cases d : j = upIx 0 r
            · rw [if_pos d, if_pos (show j + 1 = upIx 0 r + 1 by omega)]
            · rw [if_neg d, if_neg (show ¬ j + 1 = upIx 0 r + 1 by omega)]
              by_cases e : j = upIx 0 r + 1
              · rw [if_pos e, if_pos (show j + 1 = upIx 0 r + 1 + 1 by omega)]
              · rw [if_neg e, if_neg (show ¬ j + 1 = upIx 0 r + 1 + 1 by omega)]
          · rw [if_neg c, if_neg c]
      · rw [if_neg b, upIx_ne b, fig_zero, if_neg a]
theorem look1 (p : Nat) (a b v : Int) (i : Nat) : (lookC [(p, a, b)] i).getD v = if i = p then b else v := by
  show (if i = p then some b else none).getD v = _
  by_cases z : i = p
  · rw [if_pos z, if_pos z]; rfl
  · rw [if_neg z, if_neg z]; rfl
theorem look2 (p q : Nat) (a b c d v : Int) (hpq : p < q) (i : Nat) : (lookC [(p, a, b), (q, c, d)] i).getD v = if i = p then b else if i = q then d else v := by
  show (match (if i = q then some d else none) with | some v => some v | none => if i = p then some b else none).getD v = _
  by_cases z : i = q
  · rw [if_pos z, if_pos z, if_neg (show ¬ i = p by omega)]
    show d = if i = p then b else d
    rw [if_neg (show ¬ i = p by omega)]
  · rw [if_neg z, if_neg z]
    exact look1 p a b v i
theorem look3 (p q : Nat) (a b c d e f v : Int) (hpq : p < q) (i : Nat) : (lookC [(p, a, b), (q, c, d), (q + 1, e, f)] i).getD v = if i = p then b else if i = q then d else if i = q + 1 then f else v := by
  show (match lookC [(q, c, d), (q + 1, e, f)] i with | some v => some v | none => if i = p then some b else none).getD v = _
  have h := fun v => look2 q (q + 1) c d e f v (Nat.lt_succ_self q) i
  by_cases z : i = p
  · rw [if_pos z, if_pos z]
    have : lookC [(q, c, d), (q + 1, e, f)] i = none := by
      show (match (if i = q + 1 then some f else none) with | some v => some v | none => if i = q then some d else none) = none
      rw [if_neg (show ¬ i = q + 1 by omega), if_neg (show ¬ i = q by omega)]
    rw [this]; rfl
  · rw [if_neg z, if_neg z, ← h v]
    cases lookC [(q, c, d), (q + 1, e, f)] i <;> rfl
theorem join_bump (l : List Int) (p : Nat) (x d : Int) (i : Nat) : fig (loF l p ++ x :: bump d (l.drop (p + 1))) i = if i = p then x else if i = p + 1 then fig l (p + 1) + d else fig l i := by
  rw [join_fig, fig_bump, fig_drop, fig_drop, Nat.add_zero]
  by_cases a : i < p
  · rw [if_pos a, if_neg (show ¬ i = p by omega), if_neg (show ¬ i = p + 1 by omega)]
  · rw [if_neg a]
    by_cases b : i = p
    · rw [if_pos b, if_pos b]
    · rw [if_neg b, if_neg b]
      by_cases c : i = p + 1
      · rw [if_pos c, if_pos (show i - (p + 1) = 0 by omega)]
      · rw [if_neg c, if_neg (show ¬ i - (p + 1) = 0 by omega)]
        congr 1; omega
theorem join_plain (l : List Int) (p : Nat) (x : Int) (i : Nat) : fig (loF l p ++ x :: l.drop (p + 1)) i = if i = p then x else fig l i := by
  rw [join_fig, fig_drop]
  by_cases a : i < p
  · rw [if_pos a, if_neg (show ¬ i = p by omega)]
  · rw [if_neg a]
    by_cases b : i = p
    · rw [if_pos b, if_pos b]
    · rw [if_neg b, if_neg b]
      congr 1; omega
theorem join_up (l : List Int) (p : Nat) (x : Int) (i : Nat) : fig (loF l p ++ x :: fixUp (l.drop (p + 1))) i =
    if fig l (atF 1 l p) = 2 then (if i = p then x else if i = atF 1 l p then 0 else if i = atF 1 l p + 1 then fig l (atF 1 l p + 1) + 1 else fig l i) else if i = p then x else fig l i := by
  have ea : p + 1 + upIx 1 (l.drop (p + 1)) = atF 1 l p := rfl
  rw [join_fig, fig_fixUp, fig_drop, fig_drop, ea]
  by_cases a : i < p
  · rw [if_pos a, if_neg (show ¬ i = p by omega), if_neg (show ¬ i = atF 1 l p by omega), if_neg (show ¬ i = atF 1 l p + 1 by omega)]
    split
    · rfl
    · rw [if_neg (show ¬ i = p by omega)]
  · rw [if_neg a]
    by_cases b : i = p
    · rw [if_pos b, if_pos b]
      split <;> rfl
    · rw [if_neg b, if_neg b]
      have ei : p + 1 + (i - (p + 1)) = i := by omega
      rw [ei]
      by_cases c : fig l (atF 1 l p) = 2
      · rw [if_pos c, if_pos c]
        by_cases d : i = atF 1 l p
        · rw [if_pos d, if_pos (show i - (p + 1) = upIx 1 (l.drop (p + 1)) by omega)]
        · rw [if_neg d, if_neg (show ¬ i - (p + 1) = upIx 1 (l.drop (p + 1)) by omega)]
          by_cases e : i = atF 1 l p + 1
          · rw [if_pos e, if_pos (show i - (p + 1) = upIx 1 (l.drop (p + 1)) + 1 by omega), e]
          · rw [if_neg e, if_neg (show ¬ i - (p + 1) = upIx 1 (l.drop (p + 1)) + 1 by omega)]
      · rw [if_neg c, if_neg c, if_neg b]
theorem join_dn (l : List Int) (p : Nat) (x : Int) (i : Nat) : fig (loF l p ++ x :: fixDn (l.drop (p + 1))) i =
    if fig l (atF 0 l p) = -1 then (if i = p then x else if i = atF 0 l p then 1 else if i = atF 0 l p + 1 then fig l (atF 0 l p + 1) + -1 else fig l i) else if i = p then x else fig l i := by
  have ea : p + 1 + upIx 0 (l.drop (p + 1)) = atF 0 l p := rfl
  rw [join_fig, fig_fixDn, fig_drop, fig_drop, ea]
  by_cases a : i < p
  · rw [if_pos a, if_neg (show ¬ i = p by omega), if_neg (show ¬ i = atF 0 l p by omega), if_neg (show ¬ i = atF 0 l p + 1 by omega)]
    split
    · rfl
    · rw [if_neg (show ¬ i = p by omega)]
  · rw [if_neg a]
    by_cases b : i = p
    · rw [if_pos b, if_pos b]
      split <;> rfl
    · rw [if_neg b, if_neg b]
      have ei : p + 1 + (i - (p + 1)) = i := by omega
      rw [ei]
      by_cases c : fig l (atF 0 l p) = -1
      · rw [if_pos c, if_pos c]
        by_cases d : i = atF 0 l p
        · rw [if_pos d, if_pos (show i - (p + 1) = upIx 0 (l.drop (p + 1)) by omega)]
        · rw [if_neg d, if_neg (show ¬ i - (p + 1) = upIx 0 (l.drop (p + 1)) by omega)]
          by_cases e : i = atF 0 l p + 1
          · rw [if_pos e, if_pos (show i - (p + 1) = upIx 0 (l.drop (p + 1)) + 1 by omega), e]
          · rw [if_neg e, if_neg (show ¬ i - (p + 1) = upIx 0 (l.drop (p + 1)) + 1 by omega)]
      · rw [if_neg c, if_neg c, if_neg b]
theorem add_fig {l : List Int} (hc : Cm l) (p i : Nat) : fig (putL l (dueF 1 l p)) i = fig (addP (loF l p) (fig l p) (l.drop (p + 1))) i := by
  have hf := fg_lo (fun x hx => hc.figs x hx)
  have hp := hf p
  have ha : p < atF 1 l p := Nat.lt_of_lt_of_le (Nat.lt_succ_self p) (Nat.le_add_right _ _)
  have e3 : (3 : Int) * 1 - 1 = 2 := rfl
  have e2 : (2 : Int) * 1 - 1 = 1 := rfl
  rw [fig_putL]
  unfold dueF addP
  rw [e3, e2, below_two hf]
  by_cases c1 : fig l p = 2
  · rw [if_pos (Or.inl c1), if_pos c1, join_bump, look2 _ _ _ _ _ _ _ (Nat.lt_succ_self p)]
    have : fig l p - 1 = 1 := by omega
    rw [this]
  · rw [if_neg c1]
    by_cases c2 : fig l p = -1
    · rw [if_neg (show ¬ (fig l p = 2 ∨ fig l p = 1 ∧ belowF 1 l p = 2) by omega), if_pos c2, if_neg (show ¬ ((fig l p = 0 ∨ fig l p = 1) ∧ fig l (atF 1 l p) = 2) by omega), join_plain, look1]
      have : fig l p + 1 = 0 := by omega
      rw [this]
    · rw [if_neg c2]
      by_cases c3 : fig l p = 0
      · rw [if_neg (show ¬ (fig l p = 2 ∨ fig l p = 1 ∧ belowF 1 l p = 2) by omega), if_pos c3, join_up]
        have : fig l p + 1 = 1 := by omega
        rw [this]
        by_cases c : fig l (atF 1 l p) = 2
        · rw [if_pos ⟨Or.inl c3, c⟩, if_pos c, look3 _ _ _ _ _ _ _ _ _ ha]; rfl
        · rw [if_neg (fun z => c z.2), if_neg c, look1]
      · rw [if_neg c3]
        have c4 : fig l p = 1 := by omega
        by_cases c5 : belowF 1 l p = 2
        · rw [if_pos (Or.inr ⟨c4, c5⟩), if_pos (decide_eq_true c5), join_bump, look2 _ _ _ _ _ _ _ (Nat.lt_succ_self p)]
          have : fig l p - 1 = 0 := by omega
          rw [this]
        · rw [if_neg (fun z => by rcases z with z | z; exact c1 z; exact c5 z.2), if_neg (show ¬ (decide (belowF 1 l p = 2) = true) by rw [decide_eq_false c5]; decide), join_up]
          have : fig l p + 1 = 2 := by omega
          rw [this]
          by_cases c : fig l (atF 1 l p) = 2
          · rw [if_pos ⟨Or.inr c4, c⟩, if_pos c, look3 _ _ _ _ _ _ _ _ _ ha]; rfl
          · rw [if_neg (fun z => c z.2), if_neg c, look1]
theorem take_fig {l : List Int} (hc : Cm l) (p i : Nat) : fig (putL l (dueF 0 l p)) i = fig (takeP (loF l p) (fig l p) (l.drop (p + 1))) i := by
  have hf := fg_lo (fun x hx => hc.figs x hx)
  have hp := hf p
  have ha : p < atF 0 l p := Nat.lt_of_lt_of_le (Nat.lt_succ_self p) (Nat.le_add_right _ _)
  have e3 : (3 : Int) * 0 - 1 = -1 := rfl
  have e2 : (2 : Int) * 0 - 1 = -1 := rfl
  rw [fig_putL]
  unfold dueF takeP
  rw [e3, e2, below_low hf]
  by_cases c1 : fig l p = -1
  · rw [if_pos (Or.inl c1), if_pos c1, join_bump, look2 _ _ _ _ _ _ _ (Nat.lt_succ_self p)]
    have : fig l p - -1 = 0 := by omega
    rw [this]
  · rw [if_neg c1]
    by_cases c2 : fig l p = 2
    · rw [if_neg (show ¬ (fig l p = -1 ∨ fig l p = 0 ∧ belowF 0 l p = -1) by omega), if_pos c2, if_neg (show ¬ ((fig l p = 0 ∨ fig l p = 1) ∧ fig l (atF 0 l p) = -1) by omega), join_plain, look1]
      have : fig l p + -1 = 1 := by omega
      rw [this]
    · rw [if_neg c2]
      by_cases c3 : fig l p = 1
      · rw [if_neg (show ¬ (fig l p = -1 ∨ fig l p = 0 ∧ belowF 0 l p = -1) by omega), if_pos c3, join_dn]
        have : fig l p + -1 = 0 := by omega
        rw [this]
        by_cases c : fig l (atF 0 l p) = -1
        · rw [if_pos ⟨Or.inr c3, c⟩, if_pos c, look3 _ _ _ _ _ _ _ _ _ ha]; rfl
        · rw [if_neg (fun z => c z.2), if_neg c, look1]
      · rw [if_neg c3]
        have c4 : fig l p = 0 := by omega
        by_cases c5 : belowF 0 l p = -1
        · rw [if_pos (Or.inr ⟨c4, c5⟩), if_pos (decide_eq_true c5), join_bump, look2 _ _ _ _ _ _ _ (Nat.lt_succ_self p)]
          have : fig l p - -1 = 1 := by omega
          rw [this]
        · rw [if_neg (fun z => by rcases z with z | z; exact c1 z; exact c5 z.2), if_neg (show ¬ (decide (belowF 0 l p = -1) = true) by rw [decide_eq_false c5]; decide), join_dn]
          have : fig l p + -1 = -1 := by omega
          rw [this]
          by_cases c : fig l (atF 0 l p) = -1
          · rw [if_pos ⟨Or.inl c4, c⟩, if_pos c, look3 _ _ _ _ _ _ _ _ _ ha]; rfl
          · rw [if_neg (fun z => c z.2), if_neg c, look1]
noncomputable def deedF (r : Int) (l : List Int) (p : Nat) : List Int := putF l (dueF r l p)
theorem whole_cm {l : List Int} (h : Cm l) (p : Nat) : Cm (loF l p ++ fig l p :: l.drop (p + 1)) := cm_ext (fun i => (whole_fig l p i).symm) h
theorem added_calm {l : List Int} (h : calmF l = true) (p : Nat) : calmF (deedF 1 l p) = true :=
  calm_trim (cm_ext (fun i => (add_fig (calm_cm h) p i).symm) (add_calm (whole_cm (calm_cm h) p)))
theorem taken_calm {l : List Int} (h : calmF l = true) (p : Nat) : calmF (deedF 0 l p) = true :=
  calm_trim (cm_ext (fun i => (take_fig (calm_cm h) p i).symm) (take_calm (whole_cm (calm_cm h) p)))
theorem deed_back {l : List Int} (h : calmF l = true) (r : Int) (p : Nat) : putF (deedF r l p) (backF (dueF r l p)) = l := put_back (due_told l p).1 (calm_last h)
theorem deed_len {l : List Int} {r : Int} {p n : Nat} (hp : p + 2 ≤ n) (hl : l.length + 1 ≤ n) : (deedF r l p).length ≤ n :=
  Nat.le_trans (trim_length _) (len_putL _ _ n (by omega) (due_places hp hl))
end Mth
namespace Mth
noncomputable def calmZ (two minus : Bool) (last z : Int) : Int :=
  let z1 := if (decide (z = 2) && two) = true then (if last = 2 then 1 else 0) else z
  if (decide (z1 = -1) && minus) = true then (if last = -1 then 0 else 1) else z1
structure MD (acc : List Int) (two minus : Bool) : Prop where
  cm : Cm acc
  f2 : st2 false acc = two
  fM : st2 false (mir acc) = minus
theorem MD.start : MD [] false false := ⟨Cm.nil, rfl, rfl⟩
theorem MD.put {acc : List Int} {two minus : Bool} (h : MD acc two minus) {z : Int} (h1 : -1 ≤ z) (h2 : z ≤ 2) (g2 : z = 2 → two = false) (gM : z = -1 → minus = false) :
    MD (acc ++ [z]) (decide (z = 2) || (two && decide (z = 1))) (decide (z = -1) || (minus && decide (z = 0))) := by
  have m : MC acc (!two) (!minus) := ⟨h.cm, by rw [h.f2, Bool.not_not], by rw [h.fM, Bool.not_not]⟩
  have q := m.step (two' := !(decide (z = 2) || (two && decide (z = 1)))) (low' := !(decide (z = -1) || (minus && decide (z = 0)))) h1 h2 (fun e => by rw [g2 e]; rfl) (fun e => by rw [gM e]; rfl) ?_ ?_
  · exact ⟨q.cm, by rw [q.f2, Bool.not_not], by rw [q.fM, Bool.not_not]⟩
  · have c : z = -1 ∨ z = 0 ∨ z = 1 ∨ z = 2 := by omega
    rcases c with rfl | rfl | rfl | rfl <;> cases two <;> rfl
  · have c : z = -1 ∨ z = 0 ∨ z = 1 ∨ z = 2 := by omega
    rcases c with rfl | rfl | rfl | rfl <;> cases minus <;> rfl
theorem calmZ_ok (two minus : Bool) (last : Int) {z : Int} (h1 : -1 ≤ z) (h2 : z ≤ 2) : -1 ≤ calmZ two minus last z ∧ calmZ two minus last z ≤ 2 ∧ (calmZ two minus last z = 2 → two = false) ∧ (calmZ two minus last z = -1 → minus = false) := by
  have c : z = -1 ∨ z = 0 ∨ z = 1 ∨ z = 2 := by omega
  unfold calmZ
  by_cases a : last = 2
  · subst a
    rcases c with rfl | rfl | rfl | rfl <;> cases two <;> cases minus <;> decide
  · by_cases b : last = -1
    · subst b
      rcases c with rfl | rfl | rfl | rfl <;> cases two <;> cases minus <;> decide
    · rcases c with rfl | rfl | rfl | rfl <;> cases two <;> cases minus <;> simp [a, b]
theorem MD.step {acc : List Int} {two minus : Bool} (h : MD acc two minus) (last : Int) {z : Int} (h1 : -1 ≤ z) (h2 : z ≤ 2) :
    MD (acc ++ [calmZ two minus last z]) (decide (calmZ two minus last z = 2) || (two && decide (calmZ two minus last z = 1))) (decide (calmZ two minus last z = -1) || (minus && decide (calmZ two minus last z = 0))) := by
  obtain ⟨a, b, c, d⟩ := calmZ_ok two minus last h1 h2
  exact h.put a b c d
theorem endOk_snoc {l : List Int} (h : endOk l = false) : ∃ r, l = r ++ [0] := by
  unfold endOk at h
  have h' : l.getLast? = some 0 := by simpa using h
  have hne : l ≠ [] := by intro e; rw [e] at h'; cases h'
  refine ⟨l.dropLast, ?_⟩
  have e := List.dropLast_concat_getLast hne
  rw [List.getLast?_eq_some_getLast hne] at h'
  rw [Option.some.inj h'] at e
  exact e.symm
theorem endOk_last {l : List Int} (h : endOk l = true) : l.getLast? ≠ some 0 := by
  unfold endOk at h
  simpa using h
noncomputable def cntF : Int → Int → List Int → Bool
  | _, _, [] => true
  | tw, lw, x :: r =>
    if x < -1 ∨ 2 < x then false else
    let tw1 := if x = 2 then tw + 1 else tw
    let tw2 := if x < 1 then 0 else tw1
    let lw1 := if x = -1 then lw + 1 else lw
    let lw2 := if 0 < x then 0 else lw1
    if 1 < tw2 ∨ 1 < lw2 then false else cntF tw2 lw2 r
theorem cnt_eq : ∀ (l : List Int) (b c : Bool), cntF (if b then 1 else 0) (if c then 1 else 0) l = (l.all isFig && (apart b l && apart c (mir l)))
  | [], b, c => by cases b <;> cases c <;> rfl
  | x :: r, b, c => by
    rw [mir_cons]
    by_cases h : x < -1 ∨ 2 < x
    · have e : isFig x = false := by
        unfold isFig
        rcases h with h | h
        · rw [decide_eq_false (show ¬ -1 ≤ x by omega)]; rfl
        · rw [decide_eq_false (show ¬ x ≤ 2 by omega), Bool.and_false]
      simp only [cntF, List.all_cons, e, Bool.false_and]
      rw [if_pos h]
    · have e : isFig x = true := by
        unfold isFig
        rw [decide_eq_true (show -1 ≤ x by omega), decide_eq_true (show x ≤ 2 by omega)]; rfl
      have q : x = -1 ∨ x = 0 ∨ x = 1 ∨ x = 2 := by omega
      have i00 := cnt_eq r false false
      have i01 := cnt_eq r false true
      have i10 := cnt_eq r true false
      simp only [List.all_cons, e, Bool.true_and]
      rcases q with rfl | rfl | rfl | rfl
      · cases c
        · cases b <;> (simp [cntF, apart]; simpa using i01)
        · cases b <;> simp [cntF, apart]
      · cases c
        · cases b <;> (simp [cntF, apart]; simpa using i00)
        · cases b <;> (simp [cntF, apart]; simpa using i01)
      · cases b
        · cases c <;> (simp [cntF, apart]; simpa using i00)
        · cases c <;> (simp [cntF, apart]; simpa using i10)
      · cases b
        · cases c <;> (simp [cntF, apart]; simpa using i10)
        · cases c <;> simp [cntF, apart]
theorem calm_cnt (l : List Int) : calmF l = (cntF 0 0 l && endOk l) := by
  have := cnt_eq l false false
  have e : cntF 0 0 l = cntF (if false then 1 else 0) (if false then 1 else 0) l := rfl
  rw [e, this]
  unfold calmF
  cases l.all isFig <;> cases endOk l <;> cases apart false l <;> cases apart false (mir l) <;> rfl
noncomputable def stepF (row : List Int) (k : Nat) (f : Int) : List Int :=
  if f = 2 then deedF 1 (deedF 1 row k) k else if f = 1 then deedF 1 row k else if f = -1 then deedF 0 row k else row
noncomputable def joinF : List Int → Nat → List Int → List Int
  | row, _, [] => row
  | row, k, f :: r => joinF (stepF row k f) (k + 1) r
theorem step_calm {row : List Int} (h : calmF row = true) (k : Nat) (f : Int) : calmF (stepF row k f) = true := by
  unfold stepF
  split
  · exact added_calm (added_calm h k) k
  · split
    · exact added_calm h k
    · split
      · exact taken_calm h k
      · exact h
theorem step_len {row : List Int} {k : Nat} {f : Int} {n : Nat} (hk : k + 3 ≤ n) (hl : row.length + 2 ≤ n) : (stepF row k f).length ≤ n := by
  unfold stepF
  split
  · have h2 : (deedF 1 row k).length ≤ max (k + 2) (row.length + 1) := deed_len (Nat.le_max_left _ _) (Nat.le_max_right _ _)
    exact deed_len (by omega) (by omega)
  · split
    · exact deed_len (by omega) (by omega)
    · split
      · exact deed_len (by omega) (by omega)
      · omega
end Mth
namespace Mth
noncomputable def mrr (u : Bool) (f : Int) : Int := if u then f else 1 - f
noncomputable def runF (u : Bool) : Int := if u then 1 else 0
theorem mrr_one (u : Bool) (x : Int) : mrr u x = 1 ↔ x = runF u := by cases u <;> simp [mrr, runF] <;> omega
theorem mrr_two (u : Bool) (x : Int) : mrr u x = 2 ↔ x = 3 * runF u - 1 := by cases u <;> simp [mrr, runF] <;> omega
noncomputable def behF (u : Bool) (l : List Int) (p : Nat) : List (Nat × Int) :=
  if mrr u (fig l p) = 2 then [(p, 1), (p + 1, mrr u (fig l (p + 1)) + 1)]
  else if mrr u (fig l p) = -1 then [(p, 0)]
  else if mrr u (fig l p) = 1 ∧ belowF (runF u) l p = 3 * runF u - 1 then [(p, 0), (p + 1, mrr u (fig l (p + 1)) + 1)]
  else if mrr u (fig l (atF (runF u) l p)) = 2 then [(p, mrr u (fig l p) + 1), (atF (runF u) l p, 0), (atF (runF u) l p + 1, mrr u (fig l (atF (runF u) l p + 1)) + 1)]
  else [(p, mrr u (fig l p) + 1)]
noncomputable def stepC (u : Bool) (l : List Int) (p : Nat) : List Ch := (behF u l p).map fun t => (t.1, fig l t.1, mrr u t.2)
theorem step_due (u : Bool) {l : List Int} {p : Nat} (h : -1 ≤ fig l p ∧ fig l p ≤ 2) : stepC u l p = dueF (if u then 1 else 0) l p := by
  have hr : (if u then (1 : Int) else 0) = runF u := rfl
  rw [hr]
  unfold stepC behF dueF
  have m2 : mrr u (fig l p) = 2 ↔ fig l p = 3 * runF u - 1 := mrr_two u _
  have m1 : mrr u (fig l p) = 1 ↔ fig l p = runF u := mrr_one u _
  have ma : mrr u (fig l (atF (runF u) l p)) = 2 ↔ fig l (atF (runF u) l p) = 3 * runF u - 1 := mrr_two u _
  by_cases c2 : fig l p = 3 * runF u - 1
  · rw [if_pos (m2.mpr c2), if_pos (.inl c2)]
    rw [c2]
    clear m2 m1 ma hr h
    cases u <;> simp [mrr, runF, c2] <;> (try rw [c2]) <;> (try simp [runF]) <;> (try omega)
  rw [if_neg (fun z => c2 (m2.mp z))]
  by_cases cm : mrr u (fig l p) = -1
  · rw [if_pos cm]
    have n1 : ¬ (fig l p = 3 * runF u - 1 ∨ (fig l p = runF u ∧ belowF (runF u) l p = 3 * runF u - 1)) := by
      rintro (z | z)
      · exact c2 z
      · have := m1.mpr z.1
        clear m2 m1 ma c2 hr h z
        omega
    have n2 : ¬ ((fig l p = 0 ∨ fig l p = 1) ∧ fig l (atF (runF u) l p) = 3 * runF u - 1) := by
      rintro ⟨z, _⟩
      clear n1 m2 m1 ma c2 hr
      cases u <;> simp [mrr] at cm <;> omega
    rw [if_neg n1, if_neg n2]
    clear n1 n2 m2 m1 ma c2 hr
    cases u <;> simp [mrr, runF] at cm ⊢ <;> omega
  rw [if_neg cm]
  by_cases cb : fig l p = runF u ∧ belowF (runF u) l p = 3 * runF u - 1
  · rw [if_pos ⟨m1.mpr cb.1, cb.2⟩, if_pos (.inr cb)]
    have e1 := cb.1
    clear m2 m1 ma c2 cm cb hr
    cases u <;> simp [mrr, runF] at e1 ⊢ <;> omega
  rw [if_neg (fun z => cb ⟨m1.mp z.1, z.2⟩)]
  have n1 : ¬ (fig l p = 3 * runF u - 1 ∨ (fig l p = runF u ∧ belowF (runF u) l p = 3 * runF u - 1)) := fun z => z.elim c2 cb
  rw [if_neg n1]
  have h01 : fig l p = 0 ∨ fig l p = 1 := by
    clear n1 m2 m1 ma cb hr
    cases u <;> simp [mrr, runF] at cm c2 <;> omega
  by_cases ca : fig l (atF (runF u) l p) = 3 * runF u - 1
  · rw [if_pos (ma.mpr ca), if_pos ⟨h01, ca⟩]
    simp only [List.map_cons, List.map_nil]
    rw [ca]
    clear m2 m1 ma c2 cm cb hr n1 ca
    cases u <;> simp [mrr, runF] <;> omega
  · rw [if_neg (fun z => ca (ma.mp z)), if_neg (fun z => ca z.2)]
    clear m2 m1 ma c2 cm cb hr n1 ca
    cases u <;> simp [mrr, runF] <;> omega
theorem beh_small (u : Bool) (l : List Int) (p : Nat) : (behF u l p).length ≤ 3 := by
  unfold behF
  (repeat' split) <;> simp
end Mth
namespace Mth
end Mth
namespace Mth
noncomputable def cod (z : Int) : Nat := if z = -1 then 45 else if z = 0 then 48 else if z = 1 then 49 else 50
noncomputable def textF (ns : List Int) : List Nat := if ns = [] then [48] else (ns.map cod).reverse
theorem calm_figs {ns : List Int} (h : calmF ns = true) : ∀ z ∈ ns, -1 ≤ z ∧ z ≤ 2 := by
  have hall : ns.all isFig = true := by
    unfold calmF at h
    simp only [Bool.and_eq_true] at h
    exact h.1
  intro z hz
  have := List.all_eq_true.mp hall z hz
  simpa [isFig] using this
end Mth
namespace L2
open PySem PySem.Spec PyProof.Rows

section
variable {X : Cx} {tg : Expr}
end
theorem atI_fig {l : List Int} {p : Nat} (h : p < l.length) : atI (iv l) (p : Int) = some (.int (Mth.fig l p)) := by
  refine atI_nat ?_
  rw [List.getElem?_map, List.getElem?_eq_getElem h, Mth.fig_at (List.getElem?_eq_getElem h)]
  rfl
noncomputable def ch3 (t : Mth.Ch) : List Int := [(t.1 : Int), t.2.1, t.2.2]
noncomputable def ChL (H : Hp) (r : Addr) (c : List Mth.Ch) : Prop := ∃ as : List Addr, H r = some (.lst (as.map V.ref)) ∧ Paired (fun a t => H a = some (.tup (iv (ch3 t)))) as c
theorem Paired.len {α β : Type} {F : α → β → Prop} : ∀ {xs : List α} {ys : List β}, Paired F xs ys → xs.length = ys.length
  | _, _, .nil => rfl
  | _, _, .cons _ r => by rw [List.length_cons, List.length_cons, Paired.len r]
theorem Paired.at {α β : Type} {F : α → β → Prop} : ∀ {xs : List α} {ys : List β} {i : Nat} {x : α}, Paired F xs ys → xs[i]? = some x → ∃ y, ys[i]? = some y ∧ F x y
  | _, _, i, _, .nil, e => by simp at e
  | _, _, 0, x, .cons h _, e => by simp at e; subst e; exact ⟨_, rfl, h⟩
  | _, _, i + 1, x, .cons _ r, e => by
    obtain ⟨y, e1, e2⟩ := Paired.at (i := i) r (by simpa using e)
    exact ⟨y, by simpa using e1, e2⟩
theorem Paired.snoc {α β : Type} {F : α → β → Prop} : ∀ {xs : List α} {ys : List β} {x : α} {y : β}, Paired F xs ys → F x y → Paired F (xs ++ [x]) (ys ++ [y])
  | _, _, _, _, .nil, h => .cons h .nil
  | _, _, _, _, .cons q r, h => .cons q (Paired.snoc r h)
theorem pr_map {α β γ : Type} {F : α → β → Prop} {G : α → γ → Prop} {m : β → γ} (f : ∀ a b, F a b → G a (m b)) : ∀ {xs : List α} {ys : List β}, Paired F xs ys → Paired G xs (ys.map m)
  | _, _, .nil => .nil
  | _, _, .cons h r => .cons (f _ _ h) (pr_map f r)
theorem ChL.same {H H' : Hp} {r : Addr} {c : List Mth.Ch} (h : ChL H r c) (s : Same H H') : ChL H' r c := by
  obtain ⟨as, e, p⟩ := h
  exact ⟨as, s _ _ e, Paired.mapP p fun a t z => s _ _ z⟩
theorem ChL.dat {K : PySem.W.Frag} {H : Hp} {r : Addr} {c : List Mth.Ch} (h : ChL H r c) : DatR K H (.ref r) (dLT (c.map ch3)) := by
  obtain ⟨as, e, p⟩ := h
  exact .lst (SqL.of e) (datA_of (P := fun a ys => SqT K H a (iv ys)) (fun x ys h => datR_T h) (pr_map (G := fun a ys => SqT K H a (iv ys)) (m := ch3) (fun a t z => SqT.of z) p))
theorem ch3_inj {a b : Mth.Ch} (h : ch3 a = ch3 b) : a = b := by
  obtain ⟨p, x, y⟩ := a
  obtain ⟨q, z, w⟩ := b
  unfold ch3 at h
  injection h with h1 h
  injection h with h2 h
  injection h with h3 _
  have : p = q := by have h1' : (p : Int) = (q : Int) := h1; omega
  rw [this, show x = z from h2, show y = w from h3]
theorem ch_inj : ∀ {c d : List Mth.Ch}, c.map ch3 = d.map ch3 → c = d
  | [], [], _ => rfl
  | [], _ :: _, h => by cases h
  | _ :: _, [], h => by cases h
  | a :: r, b :: q, h => by
    injection h with h1 h2
    rw [ch3_inj h1, ch_inj h2]
end L2
namespace L2
open PySem PySem.Spec PyProof.Rows
structure FunD (K : PySem.W.Frag) (x qual : Str) (st : Stmt) (f : Addr) (fd : FuncData) : Prop where
  ex : ∃ (oc : Value) (od : Option Addr) (dV kV doc pm : Value) (an : Option Addr) (cdv ct : Value) (osl : Array (Option Value)),
    fd = PySem.W.fnOf x qual (defArgs st) (defBody st) (defScope st) dV kV doc pm an cdv ct ∧ K.lookup f = some ⟨oc, od, .func fd, osl⟩ ∧ PySem.W.codeIn K cdv qual = true
  kp : PySem.W.keepIn K (.ref f) = true
section
variable {P : Program} {w : World} {K : PySem.W.Frag} {mg : Str → Option Value} {base : Heap}
theorem FunD.ok {x qual : Str} {st : Stmt} {f : Addr} {fd : FuncData} {N ps : List Str} {k : Nat} {sp : Sp} (F : FunD K x qual st f fd) (S : FnScope N ps (defScope st)) (len : ∀ vs H Q E, sp vs H Q E → vs.length = ps.length)
    (hbody : ∀ (cdv : Value) (A : Around) (outer : List Env) (s : Shared) (H : Hp) (vs : List V) (Q : VK) (E : XK), Room k (A.deeper (envOfC qual (defScope st) s.heap.objs.size f cdv)) → sp vs H Q E →
      ∃ t, PSs (cxOf CX0 P w K mg base N qual (defScope st) f cdv A outer s H E).nox (defBody st) t ∧ t { nx := fun _ H' => Q .non H', rt := Q } (start N vs) H) : FnOk P w K mg base CX0 (k + 1) f fd ps sp := by
  obtain ⟨oc, od, dV, kV, doc, pm, an, cdv, ct, osl, rfl, lk, hcd⟩ := F.ex
  refine fn_of lk hcd S len fun A outer s H vs Q E hr hsp => ?_
  obtain ⟨t, h, q⟩ := hbody cdv A outer s H vs Q E hr hsp
  exact ⟨t, h.nox, q⟩
theorem FunD.okE {x qual : Str} {st : Stmt} {f : Addr} {fd : FuncData} {N ps : List Str} {k : Nat} {sp : Sp} (F : FunD K x qual st f fd) (S : FnScope N ps (defScope st)) (len : ∀ vs H Q E, sp vs H Q E → vs.length = ps.length)
    (hbody : ∀ (cdv : Value) (A : Around) (outer : List Env) (s : Shared) (H : Hp) (vs : List V) (Q : VK) (E : XK), Room k (A.deeper (envOfC qual (defScope st) s.heap.objs.size f cdv)) → sp vs H Q E →
      ∃ t, PSs (cxE P w K mg base N qual (defScope st) f cdv A outer s H E) (defBody st) t ∧ t { nx := fun _ H' => Q .non H', rt := Q } (start N vs) H) : FnOk P w K mg base (CX1 P w) (k + 1) f fd ps sp := by
  obtain ⟨oc, od, dV, kV, doc, pm, an, cdv, ct, osl, rfl, lk, hcd⟩ := F.ex
  exact fn_of lk hcd S len fun A outer s H vs Q E hr hsp => hbody cdv A outer s H vs Q E hr hsp
theorem funD_mk {x qual : Str} {st : Stmt} {f : Addr} {oc : Value} {od an : Option Addr} {osl : Array (Option Value)} {dV kV doc pm cdv ct : Value} (l : K.lookup f = some ⟨oc, od, .func (PySem.W.fnOf x qual (defArgs st) (defBody st) (defScope st) dV kV doc pm an cdv ct), osl⟩)
    (c : PySem.W.codeIn K cdv qual = true) (k : PySem.W.keepIn K (.ref f) = true) : FunD K x qual st f (PySem.W.fnOf x qual (defArgs st) (defBody st) (defScope st) dV kV doc pm an cdv ct) := ⟨⟨oc, od, dV, kV, doc, pm, an, cdv, ct, osl, rfl, l, c⟩, k⟩
end
theorem dv_true : Vals [.bl true] [.bool true] := .cons rfl .nil
theorem bn21 {K : PySem.W.Frag} {fd : FuncData} {ps : List Str} {d : Value} (hp : ps.length = 3) (h : ∀ (s : Shared) (a b : Value), K.In s.heap → BindsTo s fd ⟨[a, b], []⟩ (ps.zip [a, b, d])) : Binds K fd ps [d] := fun s us X hl => by
  rw [hp] at hl
  rcases us with _ | ⟨a, _ | ⟨b, _ | ⟨y, r⟩⟩⟩ <;> first | exact h s a b X | (exfalso; simp at hl)
theorem bn30 {K : PySem.W.Frag} {fd : FuncData} {ps : List Str} (hp : ps.length = 3) (h : ∀ (s : Shared) (a b c : Value), K.In s.heap → BindsTo s fd ⟨[a, b, c], []⟩ (ps.zip [a, b, c])) : Binds K fd ps [] := fun s us X hl => by
  rw [hp] at hl
  rcases us with _ | ⟨a, _ | ⟨b, _ | ⟨c, _ | ⟨y, r⟩⟩⟩⟩ <;> first | exact h s a b c X | (exfalso; simp at hl)
end L2
namespace L2
open PySem PySem.Spec PyProof.Rows
noncomputable abbrev TupsAt (H : Hp) (as : List Addr) (c : List Mth.Ch) : Prop := Paired (fun a t => H a = some (.tup (iv (ch3 t)))) as c
theorem TupsAt.same {H H' : Hp} {as : List Addr} {c : List Mth.Ch} (h : TupsAt H as c) (s : Same H H') : TupsAt H' as c := Paired.mapP h fun a t z => s _ _ z
section
variable {σ : St} {H : Hp} {K : PySem.W.Frag} {D : Ends}
end
section
variable {σ : St} {H : Hp} {K : PySem.W.Frag} {D : Ends}
theorem st_te {te : TE} {i : Nat} (h : te σ H fun x H1 => gName i x σ H1 D.nx) : tAsg te (gName i) D σ H := h
end
section
variable {X : Cx}
end
theorem dLT_eq (c d : List Mth.Ch) : PyData.eqv (dLT (c.map ch3)) (dLT (d.map ch3)) = decide (c = d) := by
  rw [eqv_dLT]
  by_cases h : c = d
  · rw [h, decide_eq_true rfl, decide_eq_true rfl]
  · rw [decide_eq_false h, decide_eq_false (fun e => h (ch_inj e))]
section
variable {σ : St} {H : Hp} {K : PySem.W.Frag} {D : Ends}
end
end L2
namespace L2
open PySem PySem.Spec PyProof.Rows

noncomputable def clOf (env : Env) : List (Str × NameKind) → List (Str × Addr) → List (Str × Addr)
  | [], cs => cs
  | (n, k) :: r, cs => if k == .free then (match env.cells.lookup n with | some c => clOf env r ((n, c) :: cs) | none => clOf env r cs) else clOf env r cs
theorem clOf_sub {env : Env} : ∀ (ns : List (Str × NameKind)) (cs : List (Str × Addr)), (∀ x c, cs.lookup x = some c → env.cells.lookup x = some c) → ∀ x c, (clOf env ns cs).lookup x = some c → env.cells.lookup x = some c
  | [], cs, h, x, c, e => h x c e
  | (n, k) :: r, cs, h, x, c, e => by
    unfold clOf at e
    split at e
    · split at e
      · next c' hc =>
        refine clOf_sub r _ (fun y d ed => ?_) x c e
        rw [List.lookup_cons] at ed
        split at ed
        · next hy =>
          have : y = n := by simpa using hy
          cases ed; rw [this]; exact hc
        · exact h y d ed
      · exact clOf_sub r cs h x c e
    · exact clOf_sub r cs h x c e
theorem clOf_keep {env : Env} : ∀ (ns : List (Str × NameKind)) (cs : List (Str × Addr)) (x : Str), (∃ c, cs.lookup x = some c) → ∃ c, (clOf env ns cs).lookup x = some c
  | [], cs, x, h => h
  | (n, k) :: r, cs, x, h => by
    unfold clOf
    split
    · split
      · next c' hc =>
        refine clOf_keep r _ x ?_
        rw [List.lookup_cons]
        split
        · exact ⟨_, rfl⟩
        · exact h
      · exact clOf_keep r cs x h
    · exact clOf_keep r cs x h
theorem clOf_has {env : Env} : ∀ (ns : List (Str × NameKind)) (cs : List (Str × Addr)) (x : Str), (x, NameKind.free) ∈ ns → (∃ c, env.cells.lookup x = some c) → ∃ c, (clOf env ns cs).lookup x = some c
  | (n, k) :: r, cs, x, hm, h => by
    unfold clOf
    rcases List.mem_cons.mp hm with e | hm
    · cases e
      obtain ⟨c, hc⟩ := h
      rw [if_pos (by decide), hc]
      exact clOf_keep r ((n, c) :: cs) n ⟨c, by simp [List.lookup_cons]⟩
    · split
      · split
        · exact clOf_has r _ x hm h
        · exact clOf_has r _ x hm h
      · exact clOf_has r _ x hm h
theorem clos_ok {scope : Scope} {env : Env} (h : ∀ x ∈ scope.names, x.2 = .free → ∃ c, env.cells.lookup x.1 = some c) : closureFor scope env = pure (clOf env scope.names []) := by
  have go : ∀ (ns : List (Str × NameKind)) (cs : List (Str × Addr)), (∀ x ∈ ns, x.2 = .free → ∃ c, env.cells.lookup x.1 = some c) →
      (forIn ns cs fun (x : Str × NameKind) (r : List (Str × Addr)) => (if (x.2 == NameKind.free) = true then (do let a ← cellOf env x.1; pure (ForInStep.yield ((x.1, a) :: r))) else pure (ForInStep.yield r) : Sem _)) = (pure (clOf env ns cs) : Sem _) := by
    intro ns
    induction ns with
    | nil => intro cs _; rfl
    | cons x r ih =>
      intro cs hh
      obtain ⟨n, k⟩ := x
      rw [List.forIn_cons]
      have ih' := fun cs => ih cs fun y hy => hh y (List.mem_cons_of_mem _ hy)
      by_cases hk : (k == NameKind.free) = true
      · obtain ⟨c, hc⟩ := hh (n, k) List.mem_cons_self (by simpa using hk)
        have hc' : env.cells.lookup n = some c := hc
        have e1 : cellOf env n = (pure c : Sem Addr) := by unfold cellOf; rw [hc']
        have e2 : clOf env ((n, k) :: r) cs = clOf env r ((n, c) :: cs) := by rw [clOf, if_pos hk, hc']
        simp only [hk, if_true, e1, pure_bind]
        rw [ih', e2]
      · have e2 : clOf env ((n, k) :: r) cs = clOf env r cs := by rw [clOf, if_neg hk]
        simp only [hk, if_false, pure_bind, Bool.false_eq_true]
        rw [ih', e2]
  have := go scope.names [] h
  simp only [closureFor]
  rw [this]
  rfl
theorem lookup_relabel_free {env : Env} : ∀ {names : List (Str × NameKind)} {x : Str}, names.lookup x = some .free →
    (names.map fun (n, k) => if (k == NameKind.free && env.scope.kind == .function && env.kindOf n == some .cell) then (n, NameKind.cell) else (n, k)).lookup x = some .cell ∨
    (names.map fun (n, k) => if (k == NameKind.free && env.scope.kind == .function && env.kindOf n == some .cell) then (n, NameKind.cell) else (n, k)).lookup x = some .free
  | [], _, h => by simp at h
  | (n, k) :: r, x, h => by
    have ih := @lookup_relabel_free env r x
    show List.lookup x ((if (k == NameKind.free && env.scope.kind == .function && env.kindOf n == some .cell) = true then (n, NameKind.cell) else (n, k)) :: _) = _ ∨ List.lookup x ((if (k == NameKind.free && env.scope.kind == .function && env.kindOf n == some .cell) = true then (n, NameKind.cell) else (n, k)) :: _) = _
    cases hx : x == n with
    | true =>
      simp only [List.lookup_cons, hx] at h
      cases h
      by_cases hc : (NameKind.free == NameKind.free && env.scope.kind == .function && env.kindOf n == some .cell) = true
      · left; rw [if_pos hc]; simp [List.lookup_cons, hx]
      · right; rw [if_neg hc]; simp [List.lookup_cons, hx]
    | false =>
      simp only [List.lookup_cons, hx] at h
      by_cases hc : (k == NameKind.free && env.scope.kind == .function && env.kindOf n == some .cell) = true
      · rw [if_pos hc]; simp only [List.lookup_cons, hx]; exact ih h
      · rw [if_neg hc]; simp only [List.lookup_cons, hx]; exact ih h
theorem mem_relabel {env : Env} {scope : Scope} (hcell : ∀ x ∈ scope.names, x.2 ≠ .cell) {x : Str} (h : (relabel scope env).names.lookup x = some .cell ∨ (relabel scope env).names.lookup x = some .free) : (x, NameKind.free) ∈ scope.names := by
  have go : ∀ k, (k = .cell ∨ k = .free) → (x, k) ∈ (relabel scope env).names → (x, NameKind.free) ∈ scope.names := by
    intro k hk hm
    unfold relabel at hm
    obtain ⟨⟨n, k0⟩, hm, e⟩ := List.mem_map.mp hm
    by_cases hc : (k0 == NameKind.free && env.scope.kind == .function && env.kindOf n == some .cell) = true
    · have e' : (n, NameKind.cell) = (x, k) := by simpa only [hc, if_true] using e
      cases e'
      have : k0 = .free := by
        simp only [Bool.and_eq_true, beq_iff_eq] at hc
        exact hc.1.1
      subst this
      exact hm
    · have e' : (n, k0) = (x, k) := by
        have e0 : (if (k0 == NameKind.free && env.scope.kind == .function && env.kindOf n == some .cell) = true then (n, NameKind.cell) else (n, k0)) = (x, k) := e
        rw [if_neg hc] at e0
        exact e0
      cases e'
      rcases hk with rfl | rfl
      · exact absurd rfl (hcell _ hm)
      · exact hm
  rcases h with h | h
  · exact go _ (.inl rfl) (PySem.mem_of_lookup h)
  · exact go _ (.inr rfl) (PySem.mem_of_lookup h)

noncomputable abbrev cxCompF (X : Cx) (scope : Scope) (cl : List (Str × Addr)) (N : List Str) (C : Addr) (s₀ : Shared) (H₀ : Hp) (fp : List Addr) : Cx where
  prog := X.prog
  w := X.w
  K := X.K
  mg := X.mg
  base := X.base
  A := X.A
  N := N
  s₀ := s₀
  H₀ := H₀
  env := compEnvC scope cl C X.env
  outer := X.stack
  stack := X.stack
  ex := fp
  fn := fun _ => false
  calm := X.calm
  pn := []
  xe := fun _ _ => False
noncomputable def sF (σ : List (Option V)) (js : List Nat) : List (Option V) := js.map fun j => (σ[j]?).getD none
noncomputable def tCompF (wi : TI) (g : TG) (te : TE) (n : Nat) (js : List Nat) : TE := fun σ H Q => wi σ H fun J H1 => ∀ acc, H1 acc = none →
  ∃ W : Nat → Nat → Hp → Prop, (∃ m, W 0 m (upd H1 acc (.lst []))) ∧ ∀ i m H, W i m H →
    (J.stop i H ∧ Q (.ref acc) H) ∨ (J.go i H ∧ ∃ N : VK, (∀ y H3, N y H3 → ∃ xs, H3 acc = some (.lst xs) ∧ xs.length < sizeLine ∧ ∃ m', m' < m ∧ W (i + 1) m' (upd H3 acc (.lst (xs ++ [y])))) ∧
      ∀ x H', J.yld i H x H' → g x (List.replicate n none ++ sF σ js) H' fun σ2 H2 => te σ2 H2 N)

section
variable {X : Cx}
theorem comp_core {elt iter tg : Expr} {scope : Scope} {pos ps : Pos} {Nt Fv : List Str} {js : List Nat} {wi : TI} {g : TG} {te : TE} {use : Option (Value → Sem Unit)} {Q0 : Value → Shared → Prop} {Q : VK} {pins : List (Addr × Obj)} {s : Shared} {σ : List (Option V)} {H : Hp}
    (hc : X.calm = true) (hfv : ∀ x ∈ scope.names, x.2 = .free → X.env.kindOf x.1 = some .cell) (hfl : ∀ x ∈ Fv, scope.names.lookup x = some .free) (hcell : ∀ x ∈ scope.names, x.2 ≠ .cell) (hkind : scope.kind = .function)
    (hnames : ∀ x ∈ scope.names, x.2 = .local → scope.names.lookup x.1 = some .local) (hjs : Fv.map some = js.map (X.N[·]?)) (hi : PI X tg iter wi)
    (hg : ∀ cl C s₀ H₀ fp, PG (cxCompF X scope cl (Nt ++ Fv) C s₀ H₀ fp) tg g) (he : ∀ cl C s₀ H₀ fp, PE (cxCompF X scope cl (Nt ++ Fv) C s₀ H₀ fp) elt te)
    (hs : ∀ x, foldedSetIterable iter X.env x = pure x) (I : Inv X pins σ H s) (h : tCompF wi g te Nt.length js σ H Q)
    (fin : ∀ acc C s6 H5 m6, Inv X pins σ H5 s6 → Q (.ref acc) H5 → H5 C = none → C ≠ X.env.locals → X.s₀.heap.objs.size ≤ C → (∀ x c, X.env.cells.lookup x = some c → c ≠ C) → (∀ p ∈ X.pn ++ pins, p.1 ≠ C) → s6.heap.Ns C m6 →
      compPost (model X.prog X.w) X.A X.xe use Q0 (.ref acc) C (.ok .next) s6) :
    wpAny (model X.prog X.w) X.A (comprehension (.ListComp elt [⟨tg, iter, [], 0⟩] scope pos) scope X.env ps (newList []) false (eval iter X.env) use) Q0 X.xe s := by
  have hcs : ∀ x ∈ scope.names, x.2 = .free → ∃ c, X.env.cells.lookup x.1 = some c := fun x hx e => I.ok.has x.1 (.inl (hfv x hx e))
  have hlen : Fv.length = js.length := by simpa using congrArg List.length hjs
  generalize hcl : clOf X.env scope.names [] = cl
  have clSub : ∀ x c, cl.lookup x = some c → X.env.cells.lookup x = some c := by rw [← hcl]; exact clOf_sub _ _ (fun x c e => by cases e)
  have clHas : ∀ x, (x, NameKind.free) ∈ scope.names → ∃ c, cl.lookup x = some c := fun x hx => by rw [← hcl]; exact clOf_has _ _ x hx (hcs _ hx rfl)
  refine wpAny_comprehension_free (cl := cl) rfl hs (by rw [clos_ok hcs, hcl]) hkind hnames ?_
  refine thn (hi pins s σ H _ I h) fun v s1 h1 => thn h1 fun itv s2 h2 => ?_
  obtain ⟨it, fp, tn, J, H2, e, I2, T, st2, f2, hR⟩ := h2
  subst e
  refine wpAny_newObj_type (hd := by size_fits) ?_
  have hacc : H2 s2.heap.objs.size = none := I2.hok.fresh (Nat.le_refl _)
  obtain ⟨W, ⟨m0, w0⟩, turn⟩ := hR _ hacc
  have I3 : Inv X pins σ (upd H2 s2.heap.objs.size (.lst [])) { s2 with heap := s2.heap.push { cls := .type "list", dict := none, data := .seq ([] : List Value).toArray } } :=
    I2.laid (t' := s2.toks) (fun b o e => Heap.get?_push_of_some _ e) (Nat.le_refl _) ⟨Nat.zero_le _, [], 0, .nil, Heap.get?_push_size _ rfl⟩
  have st3 : tn 0 (s2.heap.push { cls := .type "list", dict := none, data := .seq ([] : List Value).toArray }) := T.keep _ _ _ st2 fun b _ o e => Heap.get?_push_of_some _ e
  have f3 : ∀ b ∈ fp, FpOk X pins (upd H2 s2.heap.objs.size (.lst [])) b := fun b hb => by
    obtain ⟨o, eo, _⟩ := T.obj _ _ st2 b hb
    refine ⟨?_, (f2 b hb).2⟩
    rw [upd_ne (Nat.ne_of_lt (Heap.lt_size eo))]
    exact (f2 b hb).1
  generalize hacc' : s2.heap.objs.size = acc at *
  generalize hs3 : ({ s2 with heap := s2.heap.push { cls := .type "list", dict := none, data := .seq ([] : List Value).toArray } } : Shared) = s3 at *
  have est3 : tn 0 s3.heap := by rw [← hs3]; exact st3
  generalize hH3 : upd H2 acc (.lst []) = H3 at *
  clear hs3 st3 hacc' I2 st2 f2 hR
  refine wpAny_newFunctionEnv hcell (by intro y hy; simp at hy) (fun h4 hns4 hsb4 => ?_) hkind
  have hlt : ∀ b o, s3.heap.get? b = some o → b ≠ s3.heap.objs.size := fun b o e => Nat.ne_of_lt (Heap.lt_size e)
  have k4 : ∀ b o, s3.heap.get? b = some o → h4.get? b = some o := fun b o e => hsb4.extBut b o (hlt b o e) (Heap.get?_push_of_some _ e)
  have ok' : (cxCompF X scope cl (Nt ++ Fv) s3.heap.objs.size s3 H3 fp).Ok :=
    { mod := I3.ok.mod
      kind := hkind
      glob := I3.ok.glob
      blt := I3.ok.blt
      above := Nat.le_refl _
      inj := fun x y c e1 e2 => I3.ok.inj x y c (clSub x c e1) (clSub y c e2)
      has := fun x hx => clHas x (mem_relabel hcell hx)
      cab := fun x c e _ => by cases e
      hd := I3.ok.hd
      frames := I3.ok.frames
      stk := .inl rfl
      exf := fun b hb => ⟨by obtain ⟨o, eo, _⟩ := T.obj _ _ est3 b hb; exact hlt b o eo, fun x c e => (f3 b hb).2.2.2.2.1 x c (clSub x c e)⟩
      bs := I3.bs
      bsz := Nat.le_trans I3.ok.bsz I3.sz
      noex := fun b o e hb => by
        rcases (f3 b hb).2.2.2.1 with z | z
        · exact I3.ok.noex b o e z
        · exact absurd (Nat.lt_of_lt_of_le (Heap.lt_size e) I3.ok.bsz) (Nat.not_lt.mpr z)
      exfs := fun b hb z => by
        have z' := I3.stkSub b z
        rcases List.mem_cons.mp z' with z' | z'
        · exact (f3 b hb).2.1 z'
        · exact (f3 b hb).2.2.1 z'
      funs := I3.stack
      frf := I3.stkFree }
  have I4 : Inv (cxCompF X scope cl (Nt ++ Fv) s3.heap.objs.size s3 H3 fp) (X.pn ++ pins) (List.replicate (Nt ++ Fv).length none) H3 { s3 with heap := h4, toks := s3.toks + ([] : List (Str × Value)).length } :=
    { ok := ok'
      os := rfl
      bare := I3.bare
      base := Un.kept k4
      loc := ⟨_, hns4, fun i x v _ h2 _ => by rw [List.getElem?_replicate] at h2; split at h2 <;> cases h2⟩
      cell := fun x c e => by obtain ⟨v, hv⟩ := I3.cell x c (clSub x c e); exact ⟨v, hv.keeps k4⟩
      free := I3.hok.fresh (Nat.le_refl _)
      freeC := fun x c e => I3.freeC x c (clSub x c e)
      pin := fun p hp => by
        have hp' : p ∈ X.pn ++ pins := by simpa using hp
        obtain ⟨p1, p2, p3, p4, p5⟩ := I3.pin p hp'
        refine ⟨k4 _ _ p1, p2, hlt _ _ p1, fun z => ?_, p5⟩
        rcases List.mem_cons.mp (I3.stkSub _ z) with z' | z'
        · exact p3 z'
        · exact p4 z'
      hok := I3.hok.kept k4
      len := List.length_replicate }
  have frv : ∀ (k : Nat) (x : Str) (v : V), Fv[k]? = some x → (sF σ js)[k]? = some (some v) → ∃ c u, RelV v u ∧ cl.lookup x = some c ∧ s3.heap.IsCell c (some u) := fun k x v e1 e2 => by
    have hx := hfl x (List.mem_of_getElem? e1)
    obtain ⟨c, ec⟩ := clHas x (PySem.mem_of_lookup hx)
    have ek : X.env.kindOf x = some .cell := hfv (x, .free) (PySem.mem_of_lookup hx) rfl
    unfold sF at e2
    rw [List.getElem?_map] at e2
    obtain ⟨j, ej, e2⟩ := Option.map_eq_some_iff.mp e2
    have e3 : σ[j]? = some (some v) := by
      cases q : σ[j]? with
      | none => rw [q] at e2; cases e2
      | some w => rw [q] at e2; exact congrArg some e2
    have e4 : X.N[j]? = some x := by
      have q := congrArg (fun l => l[k]?) hjs
      simp only [List.getElem?_map, e1, ej, Option.map_some, Option.some.injEq] at q
      exact q.symm
    obtain ⟨m, hn, hl⟩ := I3.loc
    obtain ⟨u, r, l⟩ := hl j x v e4 e3 (.inr (.inl ek))
    rcases l with ⟨k1, _⟩ | ⟨_, c', ec', hcu⟩
    · rw [ek] at k1; cases k1
    · have q := clSub x c ec
      rw [ec'] at q
      cases q
      exact ⟨c, u, r, ec, hcu⟩
  have again : ∀ {P : List (Addr × Obj)} {σ' : List (Option V)} {H' : Hp} {s' : Shared}, Inv (cxCompF X scope cl (Nt ++ Fv) s3.heap.objs.size s3 H3 fp) P σ' H' s' → Inv (cxCompF X scope cl (Nt ++ Fv) s3.heap.objs.size s3 H3 fp) P (List.replicate Nt.length none ++ sF σ js) H' s' := fun {P σ' H' s'} I' => by
    refine ⟨I'.ok, I'.os, I'.bare, I'.base, ?_, I'.cell, I'.free, I'.freeC, I'.pin, I'.hok, by simp [sF, hlen]⟩
    obtain ⟨m, hn, _⟩ := I'.loc
    refine ⟨m, hn, fun i x v e1 e2 e3 => ?_⟩
    have e1 : (Nt ++ Fv)[i]? = some x := e1
    by_cases hi' : i < Nt.length
    · rw [List.getElem?_append_left (by simpa using hi'), List.getElem?_replicate] at e2
      split at e2 <;> cases e2
    · have hle : Nt.length ≤ i := Nat.le_of_not_lt hi'
      rw [List.getElem?_append_right hle] at e1
      rw [List.getElem?_append_right (by simpa using hle), List.length_replicate] at e2
      obtain ⟨c, u, r, ec, o, ho, hd⟩ := frv _ x v e1 e2
      refine ⟨u, r, .inr ⟨lookup_relabel_free (hfl x (List.mem_of_getElem? e1)), c, ec, ?_⟩⟩
      have nf : c ∉ fp := fun z => (f3 c z).2.2.2.2.1 x c (clSub x c ec) rfl
      by_cases hcf : c ∈ frs X.stack
      · obtain ⟨sl, q⟩ := I'.base.slot c o ho (I3.freeC x c (clSub x c ec)) hcf nf
        exact ⟨_, q, hd⟩
      · exact ⟨o, I'.base.keep c o ho (I3.freeC x c (clSub x c ec)) hcf nf, hd⟩
  have st4 : tn 0 h4 := T.keep _ _ _ est3 fun b _ o e => k4 b o e
  have fpn : ∀ b ∈ fp, H3 b = none := fun b hb => (f3 b hb).1
  have stat : ∀ {H' : Hp}, (∀ b ∈ fp, H' b = none) → ∀ b ∈ fp, FpOk (cxCompF X scope cl (Nt ++ Fv) s3.heap.objs.size s3 H3 fp) (X.pn ++ pins) H' b := fun hn b hb => by
    refine ⟨hn b hb, (ok'.exf b hb).1, ok'.exfs b hb, .inl hb, (ok'.exf b hb).2, fun p hp => ?_⟩
    have hp' : p ∈ X.pn ++ pins := by simpa using hp
    exact (f3 b hb).2.2.2.2.2 p hp'
  have loop : ∀ it' : Value, it' = .ref it → codeAny (model X.prog X.w) X.A (.compLoop (.ListComp elt [⟨tg, iter, [], 0⟩] scope pos) 0 it' (.ref acc) (compEnvC scope cl s3.heap.objs.size X.env))
      (compPost (model X.prog X.w) X.A X.xe use Q0 (.ref acc) s3.heap.objs.size)
      { s3 with heap := h4, toks := s3.toks + ([] : List (Str × Value)).length } := by
    rintro it' rfl
    refine comp_loop (fun n s' => ∃ i σ' H', Inv (cxCompF X scope cl (Nt ++ Fv) s3.heap.objs.size s3 H3 fp) (X.pn ++ pins) σ' H' s' ∧ tn i s'.heap ∧ (∀ b ∈ fp, H' b = none) ∧ W i n H') ?_ m0 ⟨0, _, H3, I4, st4, fpn, w0⟩
    rintro n s5 ⟨i, σ5, H5, I5, st5, fr5, w5⟩
    rcases turn i n H5 w5 with ⟨stop, qn⟩ | ⟨go, Nx, hN, step⟩
    · refine wpAny_mono (T.done (cxCompF X scope cl (Nt ++ Fv) s3.heap.objs.size s3 H3 fp) rfl rfl rfl hc i (X.pn ++ pins) s5 σ5 H5 (fun _ _ => False) I5 (stat fr5) st5 stop) (fun r s6 ⟨hr, I6⟩ => ?_) fun _ _ e => e.elim
      subst hr
      obtain ⟨m6, hn6, _⟩ := I6.loc
      have J6 : Inv X pins σ H5 s6 := I3.call' (ch := fp) I6.os I6.base I6.hok I6.bare fun b hb => ⟨(f3 b hb).2.2.2.1, (f3 b hb).2.1, (f3 b hb).2.2.2.2.1, (f3 b hb).2.2.2.2.2⟩
      exact fin acc _ s6 H5 m6 J6 qn I6.free (Nat.ne_of_gt I3.lt) I3.sz (fun x c e => by obtain ⟨v, o, eo, _⟩ := I3.cell x c e; exact hlt c o eo) (fun p hp => hlt _ _ (I3.pin p hp).1) hn6
    · refine wpAny_mono (T.item (cxCompF X scope cl (Nt ++ Fv) s3.heap.objs.size s3 H3 fp) rfl rfl rfl hc i (X.pn ++ pins) s5 σ5 H5 (fun _ _ => False) I5 (stat fr5) st5 go) (fun r s6 ⟨u, hr, h6⟩ => ?_) fun _ _ e => e.elim
      subst hr
      refine wpAny_mono h6 (fun _ s7 ⟨x, H7, I7, r7, y7, st7, fr7⟩ => ?_) fun _ _ e => e.elim
      have I7' : Inv (cxCompF X scope cl (Nt ++ Fv) s3.heap.objs.size s3 H3 fp) ((X.pn ++ pins) ++ pinsAt fp s7.heap) (List.replicate Nt.length none ++ sF σ js) H7 s7 :=
        again (I7.pinned (stat fr7) (T.obj _ _ st7))
      refine wpAny_mono (hg _ _ _ _ _ _ s7 _ H7 x u _ I7' r7 (step x H7 y7)) (fun _ s8 ⟨σ8, H8, I8, q8⟩ => ?_) fun _ _ e => e.elim
      refine wpAny_mono (he _ _ _ _ _ _ s8 σ8 H8 _ I8 q8) (fun ux s9 ⟨y, H9, I9, r9, n9⟩ => ?_) fun _ _ e => e.elim
      obtain ⟨xs, ha, hl, m', hm, w9⟩ := hN y H9 n9
      refine wpAny_mono (mt_append (X := cxCompF X scope cl (Nt ++ Fv) s3.heap.objs.size s3 H3 fp) _ s9 σ8 H9 (.ref acc) [y] (.ref acc) [ux] (fun _ H10 => W (i + 1) m' H10) I9 rfl (.cons r9 .nil) ⟨acc, xs, y, rfl, rfl, ha, hl, w9⟩) (fun _ s10 ⟨_, H10, I10, _, q10⟩ => ?_) fun _ _ e => e.elim
      refine ⟨m', hm, i + 1, σ8, H10, I10.unpinned, T.keep _ _ _ st7 fun b hb o e => (I10.pin (b, o) (List.mem_append_right _ (List.mem_append_right _ (mem_pinsAt hb e)))).1, fun b hb => ?_, q10⟩
      obtain ⟨o, e, d⟩ := T.obj _ _ st7 b hb
      exact (I10.pin (b, o) (List.mem_append_right _ (List.mem_append_right _ (mem_pinsAt hb e)))).2.1
  exact codeAny_compStart_list (loop _ rfl) (T.self _ _ _ _ _ st4 (loop _ rfl))

theorem fv_of {scope : Scope} (h : (scope.names.all fun x => x.2 != .free || X.env.kindOf x.1 == some .cell) = true) : ∀ x ∈ scope.names, x.2 = .free → X.env.kindOf x.1 = some .cell := fun x hx e => by
  have q := List.all_eq_true.mp h x hx
  rw [e] at q
  simpa using q
theorem pe_compF {elt iter tg : Expr} {scope : Scope} {pos : Pos} {Nt : List Str} (Fv : List Str) (js : List Nat) {wi : TI} {g : TG} {te : TE}
    (hc : X.calm = true) (hfv : (scope.names.all fun x => x.2 != .free || X.env.kindOf x.1 == some .cell) = true) (hfl : ∀ x ∈ Fv, scope.names.lookup x = some .free) (hcell : ∀ x ∈ scope.names, x.2 ≠ .cell) (hkind : scope.kind = .function)
    (hnames : ∀ x ∈ scope.names, x.2 = .local → scope.names.lookup x.1 = some .local) (hjs : Fv.map some = js.map (X.N[·]?)) (hi : PI X tg iter wi)
    (hg : ∀ cl C s₀ H₀ fp, PG (cxCompF X scope cl (Nt ++ Fv) C s₀ H₀ fp) tg g) (he : ∀ cl C s₀ H₀ fp, PE (cxCompF X scope cl (Nt ++ Fv) C s₀ H₀ fp) elt te)
    (hs : ∀ x, foldedSetIterable iter X.env x = pure x := by intro _; rfl) : PE X (.ListComp elt [⟨tg, iter, [], 0⟩] scope pos) (tCompF wi g te Nt.length js) := by
  intro pins s σ H Q I h
  rw [eval_ListComp]
  refine comp_core (Q := Q) hc (fv_of hfv) hfl hcell hkind hnames hjs hi hg he hs I h ?_
  intro acc C s6 H5 m6 J6 qn hf hL h1 h2 h3 hn6
  refine ⟨m6, hn6, fun h7 sb7 => ?_⟩
  have J7 : Inv X pins σ H5 { s6 with heap := h7, toks := s6.toks } := J6.turned (it := C) (fun b o hb e => (sb7.2 b hb).trans e) hf hL (.inr h1) h2 h3
  exact ⟨.ref acc, H5, J7, rfl, qn⟩
theorem comp_listF {K : PySem.W.Frag} {a : Addr} {xs : List V} {g : TG} {te : TE} {σ0 : List (Option V)} {Q : VK} {H1 : Hp} {acc : Addr} (Pv : Nat → Hp → Prop) (h0 : Pv 0 (upd H1 acc (.lst []))) (hl : ∀ i H, i ≤ xs.length → Pv i H → SqL K H a xs)
    (hs : ∀ i x H, xs[i]? = some x → Pv i H → g x σ0 H fun σ2 H2 => te σ2 H2 fun y H3 => ∃ zs, H3 acc = some (.lst zs) ∧ zs.length < sizeLine ∧ Pv (i + 1) (upd H3 acc (.lst (zs ++ [y])))) (hd : ∀ H, Pv xs.length H → Q (.ref acc) H) :
    ∃ W : Nat → Nat → Hp → Prop, (∃ m, W 0 m (upd H1 acc (.lst []))) ∧ ∀ i m H, W i m H →
      ((Itl K a).stop i H ∧ Q (.ref acc) H) ∨ ((Itl K a).go i H ∧ ∃ N : VK, (∀ y H3, N y H3 → ∃ zs, H3 acc = some (.lst zs) ∧ zs.length < sizeLine ∧ ∃ m', m' < m ∧ W (i + 1) m' (upd H3 acc (.lst (zs ++ [y])))) ∧
        ∀ x H', (Itl K a).yld i H x H' → g x σ0 H' fun σ2 H2 => te σ2 H2 N) := by
  refine ⟨fun i m H => m = xs.length - i ∧ i ≤ xs.length ∧ Pv i H, ⟨xs.length, by simp, Nat.zero_le _, h0⟩, ?_⟩
  rintro i m H ⟨rfl, hi, p⟩
  have q := hl i H hi p
  by_cases hlt : i < xs.length
  · refine .inr ⟨⟨xs, xs[i], q, by simp [hlt]⟩, fun y H3 => ∃ zs, H3 acc = some (.lst zs) ∧ zs.length < sizeLine ∧ Pv (i + 1) (upd H3 acc (.lst (zs ++ [y]))), fun y H3 ⟨zs, z1, z2, z3⟩ => ⟨zs, z1, z2, xs.length - (i + 1), by omega, rfl, hlt, z3⟩, fun x H' y => ?_⟩
    obtain ⟨e, y⟩ := y
    subst e
    exact hs i x _ (y xs q) p
  · have e : i = xs.length := by omega
    subst e
    exact .inl ⟨⟨xs, q, Nat.le_refl _⟩, hd H p⟩
end
end L2
namespace L2
open PySem PySem.Spec PyProof.Rows
theorem pe_globE {X : Cx} {x : Str} {v : V} {pos : Pos} (hg : Gl X x) (h : ∃ u, X.mg x = some u ∧ RelV v u) (hd : (x == ("__debug__" : Str)) = false := by decide) : PE X (.Name x pos) (tC v) := by
  obtain ⟨u, hm, r⟩ := h
  exact pe_glob hg hm r hd
theorem pg_tupK {X : Cx} {K : PySem.W.Frag} (hK : X.K = K) {es : List Expr} {k : Nat} {t : TGs} {n : Nat} {pos : Pos} (hc : X.calm = true) (h : PGs X es t)
    (hn : (assignEach es X.env).length = n := by rfl) (hst : (assignEach es X.env).findIdx? (·.1) = none := by rfl) : PG X (.Tuple es k pos) (gTup K n t) := by
  subst hK; exact pg_tup hc h hn hst
theorem get_fig {l : List Int} {i : Nat} (h : i < l.length) : l[i]? = some (Mth.fig l i) := by
  have h0 := List.getElem?_eq_getElem h
  rw [h0, Mth.fig_at h0]
theorem TupsAt.upd {H : Hp} {as : List Addr} {c : List Mth.Ch} {l : Addr} {xs : List V} {o : HO} (h : TupsAt H as c) (hl : H l = some (.lst xs)) : TupsAt (upd H l o) as c := Paired.mapP h fun a t z => by
  rw [upd_ne (fun e => by rw [e, hl] at z; cases z)]; exact z
section
variable {σ : St} {H : Hp} {D : Ends}
theorem st_forG {K : PySem.W.Frag} {tl : TE} {g : TG} {tb : TS} {a : Addr} {xs : List V} (hv : PuE tl σ H (.ref a)) (hS : SqL K H a xs) (Pv : Nat → St → Hp → Prop) (h0 : Pv 0 σ H) (hl : ∀ j σ H, j ≤ xs.length → Pv j σ H → SqL K H a xs)
    (hs : ∀ j x σ H, xs[j]? = some x → Pv j σ H → g x σ H fun σ2 H2 => tb { D with nx := Pv (j + 1), ct := Pv (j + 1), bk := D.nx } σ2 H2) (hd : ∀ σ H, Pv xs.length σ H → tNext D σ H) : tFor (iList K tl) g tb D σ H :=
  hv _ ⟨a, rfl, ⟨xs, hS⟩, for_list (g := g) Pv h0 hl hs hd⟩
theorem ixN_at {n p : Nat} (h : p < n) : ixN n (p : Int) = some p := by
  unfold ixN
  rw [if_pos (by omega), if_pos (by omega)]
  simp
theorem iv_set (l : List Int) (p : Nat) (v : Int) : (iv l).set p (.int v) = iv (l.set p v) := List.map_set.symm
theorem st_setix {tv to ti : TE} {l : Addr} {xs : List Int} {p : Nat} {v : Int} (hv : PuE tv σ H (.int v)) (ho : PuE to σ H (.ref l)) (hi : PuE ti σ H (.int (p : Int))) (hl : H l = some (.lst (iv xs))) (hp : p < xs.length) (h : tNext D σ (upd H l (.lst (iv (xs.set p v))))) :
    tAsg tv (gSub to ti rSetL) D σ H := hv _ (ho _ (hi _ ⟨l, iv xs, _, p, rfl, rfl, hl, ixN_at (by rw [ints_len]; exact hp), by rw [iv_set]; exact h⟩))
theorem pu_if {tA : TT} {ta tb : TE} {b : Bool} {v : V} (h : PuT tA σ H b) (h1 : b = true → PuE ta σ H v) (h2 : b = false → PuE tb σ H v) : PuE (tIf tA ta tb) σ H v := fun Q q => h _ (by
  cases b
  · exact iteF (h2 rfl _ q)
  · exact iteT (h1 rfl _ q))
noncomputable def pr2 (t : Nat × Int) : List V := [.int (t.1 : Int), .int t.2]
noncomputable def PrA (ta : TA) (σ : St) (H : Hp) (c : List (Nat × Int)) : Prop := ∀ H0, Same H H0 → ∀ Q : List V → Hp → Prop, (∀ as H', Same H0 H' → Paired (fun a t => H' a = some (.tup (pr2 t))) as c → Q (as.map V.ref) H') → ta σ H0 Q
theorem pra_nil : PrA tNil σ H [] := fun H0 _ Q q => q [] H0 (Same.refl _) .nil
theorem pra_tup {te : TE} {tr : TA} {t : Nat × Int} {c : List (Nat × Int)} (h : ∀ H0, Same H H0 → ∀ Q : VK, (∀ a, H0 a = none → Q (.ref a) (upd H0 a (.tup (pr2 t)))) → te σ H0 Q) (hr : PrA tr σ H c) : PrA (tCons te tr) σ H (t :: c) := fun H0 s Q q =>
  h H0 s _ fun a ha => hr _ (s.trans (same_new ha _)) _ fun as H' s' p => q (a :: as) H' ((same_new ha _).trans s') (.cons (s' _ _ upd_same) p)
theorem pra_cons {ta tr : TA} {z x : Int} {p : Nat} {c : List (Nat × Int)} (h : ∀ H0, Same H H0 → PuA ta σ H0 [.int z, .int x]) (hz : z = (p : Int)) (hr : PrA tr σ H c) : PrA (tCons (tTup ta) tr) σ H ((p, x) :: c) :=
  pra_tup (fun H0 s Q q => h H0 s _ ⟨small (by show 2 ≤ 1000; decide), fun a ha => by subst hz; exact q a ha⟩) hr
theorem st_prret {ta : TA} {c : List (Nat × Int)} (h : PrA ta σ H c) (hz : c.length ≤ 1000) (q : ∀ r as H', H r = none → Same H H' → H' r = some (.lst (as.map V.ref)) → Paired (fun a t => H' a = some (.tup (pr2 t))) as c → D.rt (.ref r) H') : tRet (tLst ta) D σ H :=
  h H (Same.refl _) _ fun as H' s p => ⟨small (by rw [List.length_map, Paired.len p]; exact hz), fun r hr => q r as _ (s.free hr) (s.trans (same_new hr _)) upd_same (Paired.mapP p fun a t z => (same_new hr _) _ _ z)⟩
end
end L2
namespace L2
open PySem PySem.Spec PyProof.Rows
section
variable {X : Cx}
end
section
variable {σ : St} {H : Hp} {D : Ends} {K : PySem.W.Frag}
theorem st_ifQ {tc : TT} {t u : TS} (h : tc σ H fun b H1 => if b = true then t D σ H1 else u D σ H1) : tIfS tc t u D σ H := h
theorem st_ifR {tc : TT} {t u : TS} {b : Bool} (hc : PuT tc σ H b) (R : St → Hp → Prop) (rest : ∀ σ' H', R σ' H' → tNext D σ' H')
    (h1 : (∀ σ' H', R σ' H' → tNext D σ' H') → b = true → t D σ H) (h2 : (∀ σ' H', R σ' H' → tNext D σ' H') → b = false → u D σ H) : tIfS tc t u D σ H := st_if hc (h1 rest) (h2 rest)
end
theorem ChL.but {H H' : Hp} {r l : Addr} {c : List Mth.Ch} {xs : List V} (h : ChL H r c) (b : But l H H') (hl : H l = some (.lst xs)) (n : r ≠ l) : ChL H' r c := by
  obtain ⟨as, e, p⟩ := h
  exact ⟨as, b _ _ n e, Paired.mapP p fun a t z => b _ _ (fun q => by rw [q, hl] at z; cases z) z⟩
end L2
namespace L2
open PySem PySem.Spec PyProof.Rows
section
variable {X : Cx} {es : List Expr} {k : Nat} {tpos : Pos}
end
theorem Paired.unsnoc {α β : Type} {F : α → β → Prop} : ∀ {xs : List α} {ys : List β} {x : α} {y : β}, Paired F (xs ++ [x]) (ys ++ [y]) → Paired F xs ys ∧ F x y
  | [], [], _, _, .cons h .nil => ⟨.nil, h⟩
  | [], _ :: ys, _, _, h => by
    have := Paired.len h
    simp at this
  | _ :: xs, [], _, _, h => by
    have := Paired.len h
    simp at this
  | _ :: _, _ :: _, _, _, .cons h r => ⟨.cons h (Paired.unsnoc r).1, (Paired.unsnoc r).2⟩
theorem call_isinEK {X : Cx} {K : PySem.W.Frag} (h : X.K = K) : CallR X (.builtin "isinstance") (fun xs H Q => ∃ e C c b, xs = [.ref e, c] ∧ H e = some (excO e (.ref C)) ∧ Exi K C ∧ (∃ u, RelV c u ∧ (∀ u', RelV c u' → u' = u) ∧ PySem.W.kitOne K (.ref C) u = some b) ∧ Q (.bl b) H) := by
  subst h; exact call_isinE
theorem rel_ref {a : Addr} {u : Value} (h : RelV (.ref a) u) : u = .ref a := h
theorem rel_ty {n : String} {u : Value} (h : RelV (.ty n) u) : u = .type n := h
noncomputable def dB (bs : List Bool) : PyData := .list (bs.map PyData.bool)
theorem eqvAll_bools : ∀ ns ms : List Bool, PyData.eqvAll (ns.map PyData.bool) (ms.map PyData.bool) = decide (ns = ms)
  | [], [] => by simp [PyData.eqvAll]
  | [], _ :: _ => by simp [PyData.eqvAll]
  | _ :: _, [] => by simp [PyData.eqvAll]
  | a :: r, b :: q => by
    simp only [List.map_cons, PyData.eqvAll, eqvAll_bools r q]
    cases a <;> cases b <;> simp [PyData.eqv]
theorem eqv_dB (a b : List Bool) : PyData.eqv (dB a) (dB b) = decide (a = b) := by unfold dB; rw [PyData.eqv]; exact eqvAll_bools a b
theorem lay_bools : ∀ bs : List Bool, PyData.canLayAll0 (bs.map PyData.bool) = true ∧ PyData.depthAll (bs.map PyData.bool) ≤ 1
  | [] => ⟨rfl, by simp [PyData.depthAll]⟩
  | b :: r => by
    obtain ⟨h1, h2⟩ := lay_bools r
    refine ⟨by simp [PyData.canLayAll0, PyData.canLay0, h1], ?_⟩
    simp only [List.map_cons, PyData.depthAll, PyData.depth]
    omega
theorem shaped_dB (bs : List Bool) : SeqAt.shaped (dB bs) = true := shaped_of (by unfold dB; simp only [PyData.canLay0]; exact (lay_bools bs).1) (by unfold dB; simp only [PyData.depth]; have := (lay_bools bs).2; omega)
theorem datA_bools (K : PySem.W.Frag) (H : Hp) : ∀ bs : List Bool, DatA K H (bs.map V.bl) (bs.map PyData.bool)
  | [] => .nil
  | b :: r => .cons (.bl b) (datA_bools K H r)
theorem datR_B {K : PySem.W.Frag} {H : Hp} {a : Addr} {bs : List Bool} (h : SqL K H a (bs.map V.bl)) : DatR K H (.ref a) (dB bs) := .lst h (datA_bools K H bs)
section
variable {K : PySem.W.Frag} {σ : St} {H : Hp}
theorem pu_isE {i : Nat} {e C D : Addr} {b : Bool} (hσ : σ[i]? = some (some (.ref e))) (he : H e = some (excO e (.ref C))) (x : Exi K C) (k : PySem.W.kitOne K (.ref C) (.ref D) = some b) :
    PuE (tCB (fun xs H Q => ∃ e C c b, xs = [.ref e, c] ∧ H e = some (excO e (.ref C)) ∧ Exi K C ∧ (∃ u, RelV c u ∧ (∀ u', RelV c u' → u' = u) ∧ PySem.W.kitOne K (.ref C) u = some b) ∧ Q (.bl b) H) (tCons (tVar i) (tCons (tC (.ref D)) tNil))) σ H (.bl b) :=
  fun Q q => ⟨_, hσ, e, C, _, b, rfl, he, x, ⟨_, rfl, fun u h => rel_ref h, k⟩, q⟩
theorem pu_isT {i : Nat} {e C : Addr} {n : String} {b : Bool} (hσ : σ[i]? = some (some (.ref e))) (he : H e = some (excO e (.ref C))) (x : Exi K C) (k : PySem.W.kitOne K (.ref C) (.type n) = some b) :
    PuE (tCB (fun xs H Q => ∃ e C c b, xs = [.ref e, c] ∧ H e = some (excO e (.ref C)) ∧ Exi K C ∧ (∃ u, RelV c u ∧ (∀ u', RelV c u' → u' = u) ∧ PySem.W.kitOne K (.ref C) u = some b) ∧ Q (.bl b) H) (tCons (tVar i) (tCons (tC (.ty n)) tNil))) σ H (.bl b) :=
  fun Q q => ⟨_, hσ, e, C, _, b, rfl, he, x, ⟨_, rfl, fun u h => rel_ty h, k⟩, q⟩
end
section
variable {X : Cx}
end
theorem swaps_lst {ls : List Expr} {p : Pos} {tg : Option Expr} {n : Nat} {env : Env} : swapsWith (.List ls p) tg n env = pure false := by rfl
theorem ps_setL {X : Cx} {pos : Pos} {i : Nat} {x : Str} {ls : List Expr} {p : Pos} {te : TE} {pos' : Pos} (hN : X.N.Nodup) (hi : X.N[i]? = some x) (hx : Loc X.env.scope x) (he : PE X (.List ls p) te)
    (hf : X.fn x = true ∨ X.env.scope.names.lookup x = some .local := by first | exact .inl rfl | exact .inr rfl | assumption) : PS X (.Assign [.Name x pos'] (.List ls p) pos) (tAsg te (gName i)) := ps_set hN hi hx he swaps_lst hf
@[irreducible] noncomputable def PSi (X : Cx) (st : Stmt) (t : TS) : Prop := PS X st t
@[irreducible] noncomputable def PEi (X : Cx) (e : Expr) (t : TE) : Prop := PE X e t
theorem psi {X : Cx} {st : Stmt} {t : TS} (h : PS X st t) : PSi X st t := by unfold PSi; exact h
theorem psi_un {X : Cx} {st : Stmt} {t : TS} (h : PSi X st t) : PS X st t := by unfold PSi at h; exact h
theorem pei {X : Cx} {e : Expr} {t : TE} (h : PE X e t) : PEi X e t := by unfold PEi; exact h
theorem pei_un {X : Cx} {e : Expr} {t : TE} (h : PEi X e t) : PE X e t := by unfold PEi at h; exact h
theorem passN {P : Program} {w : World} {X : Cx} : Passes (CX1 P w) X E0 := by
  rintro pins σ H s e s' _ ⟨ea, cls, H', _, _, h⟩
  exact h.elim
end L2
namespace PySem
namespace F
end F
end PySem
namespace L2
open PySem PySem.Spec PyProof.Rows
noncomputable def tx (cs : List Nat) : Str := ⟨⟨cs⟩⟩
section
variable {X : Cx} {tg : Expr}
end
noncomputable def IsRevStr (h : Heap) (a : Addr) (x : Str) (t : Tok) (i : Int) : Prop := ∃ o, h.get? a = some o ∧ o.cls = .type "reversed" ∧ o.data = .fields #[.str x t, rawInt i]
theorem IsRevStr.typeIs {s : Shared} {a : Addr} {x : Str} {t : Tok} {i : Int} (y : IsRevStr s.heap a x t i) : s.TypeIs (.ref a) "reversed" := let ⟨o, ho, hc, _⟩ := y; ⟨o, ho, hc⟩
section
variable {prog : Program} {w : World} {A : Around} {E : Value → Shared → Prop} {s : Shared} {x : Str} {t : Tok}
end
section
variable {X : Cx} {tg : Expr}
end
section
variable {X : Cx} {e st : Expr} {te : TE} {ts : TO} {pos p2 : Pos}
end
section
variable {X : Cx}
noncomputable def sg1 (cs : List Nat) : List V := cs.map fun c => V.str (tx [c])
theorem sg1_len (cs : List Nat) : (sg1 cs).length = cs.length := List.length_map _
theorem sg1_snoc (cs : List Nat) (c : Nat) : sg1 cs ++ [V.str (tx [c])] = sg1 (cs ++ [c]) := by unfold sg1; rw [List.map_append]; rfl
noncomputable def rJoin (K : PySem.W.Frag) : V → List V → Hp → VK → Prop := fun x xs H Q => ∃ sep p cs, x = .str sep ∧ sep.cps = #[] ∧ xs = [.ref p] ∧ SqL K H p (sg1 cs) ∧ cs.length ≤ 100000 ∧ Q (.str (tx cs)) H
theorem strs_sg1 : ∀ {cs : List Nat} {its : List Value}, Vals (sg1 cs) its → StrsAre its (cs.map fun c => tx [c])
  | [], _, h => by cases h; exact .nil
  | c :: r, _, h => by
    cases h with
    | cons a b =>
      obtain ⟨t, rfl⟩ := a
      exact .cons _ t (strs_sg1 b)
theorem glue_fold : ∀ (cs : List Nat) (a : Array Nat), (cs.map fun c => tx [c]).foldl (fun acc p => acc ++ #[] ++ p.cps) a = a ++ cs.toArray
  | [], a => by simp
  | c :: r, a => by
    show (r.map fun c => tx [c]).foldl (fun acc p => acc ++ #[] ++ p.cps) (a ++ #[] ++ #[c]) = _
    rw [glue_fold r]
    apply Array.ext'
    simp
theorem join_sg {sep : Str} (h : sep.cps = #[]) (cs : List Nat) : Txt.join sep (cs.map fun c => tx [c]) = tx cs := by
  unfold Txt.join Builtin.Str.glued
  rw [h]
  cases cs with
  | nil => rfl
  | cons c r =>
    show (⟨(r.map fun c => tx [c]).foldl (fun acc p => acc ++ #[] ++ p.cps) #[c]⟩ : Str) = _
    rw [glue_fold]
    congr 1
    apply Array.ext'
    simp
theorem sum_ones : ∀ cs : List Nat, ((cs.map fun c => tx [c]).map (·.length)).sum = cs.length
  | [] => rfl
  | c :: r => by
    show 1 + ((r.map fun c => tx [c]).map (·.length)).sum = _
    rw [sum_ones r, List.length_cons]
    omega
theorem mt_join : MtR X "str.join" (rJoin X.K) := by
  intro pins s σ H x xs v us Q I rx rs h
  obtain ⟨sep, p, cs, rfl, hs, rfl, hq, hl, q⟩ := h
  obtain ⟨t, rfl⟩ := rx
  obtain ⟨u, rfl, ru⟩ := vals1 rs
  cases ru
  obtain ⟨its, r, pl, hz⟩ := I.list hq
  have e0 : sep.length = 0 := by show sep.cps.size = 0; rw [hs]; rfl
  refine join_list (x := sep) pl.isList (ys := cs.map fun c => tx [c]) (by simpa using strs_sg1 r) (by rw [sum_ones, e0]; omega) fun t' k => ?_
  rw [join_sg hs]
  exact ⟨.str _, H, I.tok _, ⟨_, rfl⟩, q⟩
end
theorem comp_rev {K : PySem.W.Frag} {a : Addr} {xs : List V} {g : TG} {te : TE} {σ0 : List (Option V)} {Q : VK} {H1 : Hp} {acc : Addr} (Pv : Nat → Hp → Prop) (h0 : Pv 0 (upd H1 acc (.lst []))) (hl : ∀ i H, i ≤ xs.length → Pv i H → SqL K H a xs)
    (hs : ∀ i x H, i < xs.length → xs[xs.length - 1 - i]? = some x → Pv i H → g x σ0 H fun σ2 H2 => te σ2 H2 fun y H3 => ∃ zs, H3 acc = some (.lst zs) ∧ zs.length < sizeLine ∧ Pv (i + 1) (upd H3 acc (.lst (zs ++ [y])))) (hd : ∀ H, Pv xs.length H → Q (.ref acc) H) :
    ∃ W : Nat → Nat → Hp → Prop, (∃ m, W 0 m (upd H1 acc (.lst []))) ∧ ∀ i m H, W i m H →
      ((Itv K a xs.length).stop i H ∧ Q (.ref acc) H) ∨ ((Itv K a xs.length).go i H ∧ ∃ N : VK, (∀ y H3, N y H3 → ∃ zs, H3 acc = some (.lst zs) ∧ zs.length < sizeLine ∧ ∃ m', m' < m ∧ W (i + 1) m' (upd H3 acc (.lst (zs ++ [y])))) ∧
        ∀ x H', (Itv K a xs.length).yld i H x H' → g x σ0 H' fun σ2 H2 => te σ2 H2 N) := by
  refine ⟨fun i m H => m = xs.length - i ∧ i ≤ xs.length ∧ Pv i H, ⟨xs.length, by simp, Nat.zero_le _, h0⟩, ?_⟩
  rintro i m H ⟨rfl, hi, p⟩
  have q := hl i H hi p
  by_cases hlt : i < xs.length
  · have hx : xs[xs.length - 1 - i]? = some (xs[xs.length - 1 - i]'(by omega)) := List.getElem?_eq_getElem (by omega)
    refine .inr ⟨⟨hlt, xs, _, q, hx⟩, fun y H3 => ∃ zs, H3 acc = some (.lst zs) ∧ zs.length < sizeLine ∧ Pv (i + 1) (upd H3 acc (.lst (zs ++ [y]))), fun y H3 ⟨zs, z1, z2, z3⟩ => ⟨zs, z1, z2, xs.length - (i + 1), by omega, rfl, hlt, z3⟩, fun x H' y => ?_⟩
    obtain ⟨e, y⟩ := y
    subst e
    exact hs i x _ hlt (y xs q) p
  · have e : i = xs.length := by omega
    subst e
    exact .inl ⟨rfl, hd H p⟩
noncomputable def four : Str := tx [45, 48, 49, 50]
theorem four_is : ("-012" : Str) = four := by decide +kernel
theorem at4 {z : Int} (h : -1 ≤ z ∧ z ≤ 2) : atI ("-012" : Str).cps.toList (z + 1) = some (Mth.cod z) := by
  have : z = -1 ∨ z = 0 ∨ z = 1 ∨ z = 2 := by omega
  rw [four_is]
  rcases this with rfl | rfl | rfl | rfl <;> decide +kernel
theorem zero_is : ("0" : Str) = tx [48] := by decide +kernel
theorem emp_cps : ("" : Str).cps = #[] := by decide +kernel
theorem pu_cs {σ : St} {H : Hp} {x : Str} {cs : List Nat} (h : x = tx cs) : PuE (tC (.str x)) σ H (.str (tx cs)) := by subst h; exact pu_c
section
variable {σ : St} {H : Hp}
end
section
variable {σ : St} {H : Hp} {D : Ends}
end
end L2
namespace L2
open PySem PySem.Spec PyProof.Rows
section
variable {P : Program} {w : World} {K : PySem.W.Frag} {mg : Str → Option Value} {base : Heap} {k : Nat} {f : Addr} {fd : FuncData} {ps : List Str}
theorem FnOk.up {sp : Sp} (F : FnOk P w K mg base CX0 k f fd ps sp) : FnOk P w K mg base (CX1 P w) k f fd ps sp :=
  ⟨F.len, fun A outer s H args us vs Q E hr he hb hv hs => codeAny_mono (F.run A outer s H args us vs Q E hr he hb hv hs) fun r s' hq => by
    cases r with
    | error e => exact hq.elim
    | ok fl => cases fl <;> exact hq⟩
theorem FnOk.or {CX : CXT} {sp sp' : Sp} (F : FnOk P w K mg base CX k f fd ps sp) (G : FnOk P w K mg base CX k f fd ps sp') : FnOk P w K mg base CX k f fd ps (fun vs H Q E => sp vs H Q E ∨ sp' vs H Q E) :=
  ⟨fun vs H Q E h => h.elim (F.len vs H Q E) (G.len vs H Q E), fun A outer s H args us vs Q E hr he hb hv hs => hs.elim (F.run A outer s H args us vs Q E hr he hb hv) (G.run A outer s H args us vs Q E hr he hb hv)⟩
end
structure RoomS (k : Nat) (A : Around) : Prop where
  dp : A.depth + 3 * k + 5 < recursionLimit
  un : A.units + 16 * k + 200 < cLine
theorem Room.marked {k : Nat} {A : Around} {v : Option Value} (r : Room k A) : RoomS k (A.mark v) := ⟨r.dp, r.un⟩
noncomputable abbrev SpS := List V → Hp → VK → Prop
structure FnOkS (P : Program) (w : World) (K : PySem.W.Frag) (mg : Str → Option Value) (base : Heap) (k : Nat) (f : Addr) (fd : FuncData) (ps : List Str) (sp : SpS) : Prop where
  len : ∀ vs H Q, sp vs H Q → vs.length = ps.length
  run : ∀ (A : Around) (outer : List Env) (s : Shared) (H : Hp) (args : Args) (us : List Value) (vs : List V) (Q : VK), RoomS k A → Env0 P w K mg base A outer s H → BindsTo s fd args (ps.zip us) → Vals vs us → sp vs H Q →
    codeAny (model P w) A (.call (.ref f) args) (CR CX0 outer P w H s Q E0) s
noncomputable abbrev cxS (P : Program) (w : World) (K : PySem.W.Frag) (mg : Str → Option Value) (base : Heap) (N : List Str) (qual : Str) (scope : Scope) (f : Addr) (cd : Value) (A : Around) (outer : List Env) (s : Shared) (H : Hp) : Cx :=
  { cxOf CX0 P w K mg base N qual scope f cd A outer s H E0 with calm := false, xe := fun _ _ => False }
theorem inv_startS {P : Program} {w : World} {K : PySem.W.Frag} {mg : Str → Option Value} {base : Heap} {N ps : List Str} {qual : Str} {scope : Scope} {f : Addr} {cd : Value} {A : Around} {outer : List Env} {s s1 : Shared} {H : Hp} {us : List Value} {vs : List V}
    (S : FnScope N ps scope) (e0 : Env0 P w K mg base A outer s H) (hl : vs.length = ps.length) (r : Vals vs us)
    (x : InCallC s s.heap.objs.size (bindL (envOfC qual scope s.heap.objs.size f cd).kindOf (ps.zip us) fun _ => none) (cellsFrom (s.heap.objs.size + 1) scope.names []) (bindC (envOfC qual scope s.heap.objs.size f cd).kindOf (ps.zip us) fun _ => none) s1) :
    Inv (cxS P w K mg base N qual scope f cd A outer s H) [] (start N vs) H s1 := by
  have e1 : Env0 P w K mg base { A with handled := none } outer s H := ⟨e0.frames, e0.mod, e0.bs, e0.bsz, e0.funs, e0.frf, e0.hok, e0.bare⟩
  have I : Inv (cxOf CX0 P w K mg base N qual scope f cd { A with handled := none } outer s H E0) [] (start N vs) H s1 := inv_start S rfl e1 hl r x
  exact ⟨⟨I.ok.mod, I.ok.kind, I.ok.glob, I.ok.blt, I.ok.above, I.ok.inj, I.ok.has, I.ok.cab, (fun z => Bool.noConfusion (show false = true from z)), I.ok.frames, I.ok.stk, I.ok.exf, I.ok.bs, I.ok.bsz, I.ok.noex, I.ok.exfs, I.ok.funs, I.ok.frf⟩, I.os, I.bare, I.base, I.loc, I.cell, I.free, I.freeC, I.pin, I.hok, I.len⟩
theorem Fun.okS {P : Program} {w : World} {K : PySem.W.Frag} {mg : Str → Option Value} {base : Heap} {x qual : Str} {st : Stmt} {f : Addr} {fd : FuncData} {N ps : List Str} {k : Nat} {sp : SpS} (F : Fun K x qual st f fd) (S : FnScope N ps (defScope st)) (len : ∀ vs H Q, sp vs H Q → vs.length = ps.length)
    (hbody : ∀ (cdv : Value) (A : Around) (outer : List Env) (s : Shared) (H : Hp) (vs : List V) (Q : VK), sp vs H Q →
      ∃ t, PSs (cxS P w K mg base N qual (defScope st) f cdv A outer s H) (defBody st) t ∧ t { nx := fun _ H' => Q .non H', rt := Q } (start N vs) H) : FnOkS P w K mg base (k + 1) f fd ps sp := by
  obtain ⟨oc, od, kV, doc, pm, an, cdv, ct, osl, rfl, lk, hcd⟩ := F.ex
  refine ⟨len, fun A outer s H args us vs Q hr e0 hb r hsp => ?_⟩
  have hl := len _ _ _ hsp
  have KX : K.In s.heap := e0.mod.kin.keeps fun b o e => (e0.bs b o e).1
  have lim : s.heap.NoLimit := e0.mod.nolimit.keeps fun b o e => (e0.bs b o e).1
  have hkind : ∀ y ∈ ps.zip us, (defScope st).names.lookup y.1 = some .local ∨ ((defScope st).names.lookup y.1 = some .cell ∧ ((cellsFrom (s.heap.objs.size + 1) (defScope st).names []).lookup y.1).isSome = true) := fun ⟨n, v⟩ hy => by
    rcases S.par n (List.of_mem_zip hy).1 with q | q
    · exact .inl q
    · exact .inr ⟨q, PySem.W.cellsFrom_some _ _ _ (.inl q)⟩
  refine codeAny_call_function (by have := hr.dp; omega) (KX _ _ lk) rfl S.co S.gen rfl (PySem.W.codeRec_of KX hcd) (hb _ _ _ _ ?_)
  refine wpAny_newFunctionEnv_cells S.kind hkind fun env he s1 x => ?_
  subst he
  refine ⟨lim.keeps x.toInCall.keep, codeAny_func ?_⟩
  obtain ⟨t, ht, hq⟩ := hbody cdv A outer s H vs Q hsp
  have I : Inv (cxS P w K mg base N qual (defScope st) f cdv A outer s H) [] (start N vs) H s1 := inv_startS S e0 hl r x
  refine wpAny_mono (ht [] s1 (start N vs) H _ I hq) (fun fl s' hs => ?_) fun e s' hs => hs.elim
  have fin : ∀ {σ' : St} {H' : Hp} {v : V} {u : Value}, Inv (cxS P w K mg base N qual (defScope st) f cdv A outer s H) [] σ' H' s' → RelV v u → Q v H' → CE outer P w H s Q u s' :=
    fun {σ' H' v u} J rv q => ⟨v, H', J.os, J.bare, J.base, J.hok, rv, q⟩
  cases fl with
  | ret u =>
    obtain ⟨v, σ', H', J, rv, q⟩ := hs
    exact fin J rv q
  | next =>
    obtain ⟨σ', H', J, q⟩ := hs
    exact fin (v := V.non) (u := Value.none) J rfl q
  | brk =>
    obtain ⟨_, _, _, q⟩ := hs
    exact False.elim q
  | cont =>
    obtain ⟨_, _, _, q⟩ := hs
    exact False.elim q
noncomputable def tCallS (sp : SpS) (t : TA) : TE := fun σ H Q => t σ H fun vs H1 => sp vs H1 Q
theorem pe_callS {X : Cx} {k : Nat} {f : Addr} {fd : FuncData} {ps : List Str} {sp : SpS} {x : Str} {p pos : Pos} {e : Expr} {es : List Expr} {t : TA} (F : FnOkS X.prog X.w X.K X.mg X.base k f fd ps sp) (hr : RoomS k X.A) (hg : Gl X x) (hm : X.mg x = some (.ref f)) (hk : PySem.W.keepIn X.K (.ref f) = true) (hb : Binds X.K fd ps [])
    (ha : PA X (e :: es) t) (hdb : (x == ("__debug__" : Str)) = false := by decide) (he : starEach (e :: es) X.env = (false, eval e X.env) :: starEach es X.env := by rfl) (hpl : (backTo pos (starEach es X.env)).any (·.1) = false := by rfl) :
    PE X (.Call (.Name x p) (e :: es) [] pos) (tCallS sp t) := by
  intro pins s σ H Q I h
  refine wpAny_Call_Name_kw (ld_glob I hg hm ?_ hdb)
  refine PySem.W.callWith_K (h₀ := X.base) I.ok.mod.kin hk (thn (ha pos pins s σ H _ I h) fun us s1 ⟨vs, H1, I1, r, q⟩ => ⟨I1.kIn, ?_⟩) he hpl
  have hl : (us ++ []).length = ps.length := by rw [List.append_nil, ← r.length]; exact F.len _ _ _ q
  have hb' := hb s1 us I1.kIn hl
  rw [List.append_nil] at hb'
  refine wpAny_call (codeAny_mono (F.run X.A X.stack s1 H1 ⟨us, []⟩ us vs Q hr I1.env0 hb' r q) fun r s' hq => ?_)
  cases r with
  | error e => exact hq.elim
  | ok fl =>
    cases fl with
    | ret u => exact I1.after hq
    | next => exact False.elim hq
    | brk => exact False.elim hq
    | cont => exact False.elim hq
section
variable {σ : St} {H : Hp} {D : Ends}
theorem st_ifT {tc : TT} {t u : TS} (R : St → Hp → Prop) (rest : ∀ σ' H', R σ' H' → tNext D σ' H') (h : (∀ σ' H', R σ' H' → tNext D σ' H') → tc σ H fun b H1 => if b = true then t D σ H1 else u D σ H1) : tIfS tc t u D σ H := h rest
end
section
variable {X : Cx}
end
@[irreducible] noncomputable def PSsi (X : Cx) (l : List Stmt) (t : TS) : Prop := PSs X l t
theorem pssi {X : Cx} {l : List Stmt} {t : TS} (h : PSs X l t) : PSsi X l t := by unfold PSsi; exact h
theorem pssi_un {X : Cx} {l : List Stmt} {t : TS} (h : PSsi X l t) : PSs X l t := by unfold PSsi at h; exact h
theorem pssi_cons {X : Cx} {st : Stmt} {rest : List Stmt} {t u : TS} (h1 : PSi X st t) (h2 : PSsi X rest u) : PSsi X (st :: rest) (tSeq t u) := pssi (pss_cons (psi_un h1) (pssi_un h2))
theorem pssi_one {X : Cx} {st : Stmt} {t : TS} (h1 : PSi X st t) : PSsi X [st] t := pssi (pss_one (psi_un h1))
@[irreducible] noncomputable def PAi (X : Cx) (es : List Expr) (t : TA) : Prop := PA X es t
theorem pai {X : Cx} {es : List Expr} {t : TA} (h : PA X es t) : PAi X es t := by unfold PAi; exact h
theorem pai_un {X : Cx} {es : List Expr} {t : TA} (h : PAi X es t) : PA X es t := by unfold PAi at h; exact h
theorem pai_nil {X : Cx} : PAi X [] tNil := pai pa_nil
theorem pai_c {X : Cx} {v : Const} {j} {p : Pos} {es : List Expr} {te : TE} {t : TA} (ha : PEi X (.Constant v j p) te) (hr : PAi X es t) : PAi X (.Constant v j p :: es) (tCons te t) := pai (pa_cons (pei_un ha) (pai_un hr) rfl)
theorem pai_l {X : Cx} {ls es : List Expr} {p : Pos} {te : TE} {t : TA} (ha : PEi X (.List ls p) te) (hr : PAi X es t) : PAi X (.List ls p :: es) (tCons te t) := pai (pa_cons (pei_un ha) (pai_un hr) rfl)
theorem pai_t {X : Cx} {ls es : List Expr} {x1} {p : Pos} {te : TE} {t : TA} (ha : PEi X (.Tuple ls x1 p) te) (hr : PAi X es t) : PAi X (.Tuple ls x1 p :: es) (tCons te t) := pai (pa_cons (pei_un ha) (pai_un hr) rfl)
theorem pei_non {X : Cx} {j} {p : Pos} : PEi X (.Constant .none j p) (tC .non) := pei pe_non
theorem pei_str {X : Cx} {x j} {p : Pos} : PEi X (.Constant (.str x) j p) (tC (.str x)) := pei pe_str
theorem pei_int {X : Cx} {i j} {p : Pos} : PEi X (.Constant (.int i) j p) (tC (.int i)) := pei pe_int
theorem pei_lst {X : Cx} {es : List Expr} {t : TA} {p : Pos} (h : PAi X es t) : PEi X (.List es p) (tLst t) := pei (pe_lst (pai_un h))
theorem pei_tup {X : Cx} {es : List Expr} {x1} {t : TA} {p : Pos} (h : PAi X es t) : PEi X (.Tuple es x1 p) (tTup t) := pei (pe_tup (pai_un h))
theorem pei_ix {X : Cx} {a b : Expr} {ta tb : TE} {pos : Pos} {r : R2} (hr : IxR X r) (ha : PEi X a ta) (hb : PE X b tb) (hs : PlainIx b) : PEi X (.Subscript a b pos) (tOp r ta tb) := pei (pe_ix hr (pei_un ha) hb hs)
theorem psi_ret {X : Cx} {e : Expr} {te : TE} {pos : Pos} (he : PEi X e te) : PSi X (.Return (some e) pos) (tRet te) := psi (ps_ret (pei_un he))
section
variable {σ : St} {H : Hp} {D : Ends}
theorem st_rete {te : TE} (h : te σ H D.rt) : tRet te D σ H := h
theorem te_cat2 {ta tb : TA} {Q : VK} {xs ys : List V} (ha : PuA ta σ H xs) (hb : ∀ H1, Same H H1 → PuA tb σ H1 ys) (hz : xs.length + ys.length ≤ 1000) (q : ∀ l H', H l = none → Same H H' → H' l = some (.lst (xs ++ ys)) → Q (.ref l) H') : tOp rCat (tLst ta) (tLst tb) σ H Q :=
  ha _ ⟨small (by omega), fun l1 n1 => hb _ (same_new n1 _) _ ⟨small (by omega), fun l2 n2 => ⟨l1, l2, _, _, rfl, rfl, same_new n2 _ _ _ upd_same, upd_same, small hz, fun l4 n4 =>
    q l4 _ (((same_new n1 _).trans (same_new n2 _)).free n4) (((same_new n1 _).trans (same_new n2 _)).trans (same_new n4 _)) upd_same⟩⟩⟩
end
section
variable {σ : St} {H : Hp} {D : Ends}
end
section
variable {P : List Value → Prop}
theorem len1 (us : List Value) (hl : us.length = 1) (h : ∀ a, P [a]) : P us := by
  rcases us with _ | ⟨a, _ | ⟨b, r⟩⟩ <;> first | exact h a | (exfalso; simp at hl)
theorem len2 (us : List Value) (hl : us.length = 2) (h : ∀ a b, P [a, b]) : P us := by
  rcases us with _ | ⟨a, _ | ⟨b, _ | ⟨c, r⟩⟩⟩ <;> first | exact h a b | (exfalso; simp at hl)
theorem len3 (us : List Value) (hl : us.length = 3) (h : ∀ a b c, P [a, b, c]) : P us := by
  rcases us with _ | ⟨a, _ | ⟨b, _ | ⟨c, _ | ⟨d, r⟩⟩⟩⟩ <;> first | exact h a b c | (exfalso; simp at hl)
theorem len4 (us : List Value) (hl : us.length = 4) (h : ∀ a b c d, P [a, b, c, d]) : P us := by
  rcases us with _ | ⟨a, _ | ⟨b, _ | ⟨c, _ | ⟨d, _ | ⟨x, r⟩⟩⟩⟩⟩ <;> first | exact h a b c d | (exfalso; simp at hl)
end
end L2
namespace My
open PySem L2 Mth
local macro_rules | `(tactic| walk_at "sq") => `(tactic| first | (with_reducible refine sq_mk ?_) | (with_reducible refine sq ?_) | ((with_reducible refine nx_mk ?_); (walk_at "sq")) | ((with_reducible refine gn_ ?_); (walk_at "sq")) | ((with_reducible refine gn2 ?_); (walk_at "sq")) | ((with_reducible refine un_ ?_); (with_reducible refine nx_mk ?_); (walk_at "sq")) | skip)
local macro_rules | `(tactic| walk_at "cond") => `(tactic| first | assumption | exact ⟨by decide, by decide⟩ | exact Or.inl ⟨by decide, by decide⟩ | exact Or.inr ⟨by decide, by decide⟩ | (show (0 : Int) < _; decide) | exact ⟨by decide, by decide, by decide⟩)
local macro_rules | `(tactic| walk_at "sql") => `(tactic| first | assumption | exact SqL.of (by assumption) | exact SqL.of upd_same)
local macro_rules | `(tactic| walk_at "pu") => `(tactic| first
  | (with_reducible exact pu_c)
  | ((with_reducible apply pu_var); exact rfl)
  | (with_reducible exact pu_nil)
  | ((with_reducible apply pu_test); (walk_at "pu"))
  | ((with_reducible apply pu_tB); (walk_at "pu"))
  | ((with_reducible apply pt_not'); (walk_at "pu"))
  | ((with_reducible apply pu_U); (walk_at "pu"))
  | ((with_reducible apply pu_not); (walk_at "pu"))
  | ((with_reducible apply pu_int); (walk_at "pu"))
  | ((with_reducible apply pt_and'); (walk_at "pu"); (intro _; walk_at "pu"))
  | ((with_reducible apply pt_or'); (walk_at "pu"); (intro _; walk_at "pu"))
  | ((with_reducible apply pu_and); (walk_at "pu"); (intro _; walk_at "pu"))
  | ((with_reducible apply pu_or); (walk_at "pu"); (intro _; walk_at "pu"))
  | ((with_reducible apply pu_cons); (walk_at "pu"); (walk_at "pu"))
  | ((with_reducible apply pu_eqI); (walk_at "pu"); (walk_at "pu"))
  | ((with_reducible apply pu_neI); (walk_at "pu"); (walk_at "pu"))
  | ((with_reducible apply pu_eqB); (walk_at "pu"); (walk_at "pu"))
  | ((with_reducible apply pu_neB); (walk_at "pu"); (walk_at "pu"))
  | ((with_reducible apply pu_I0); (walk_at "pu"); (walk_at "pu"))
  | ((with_reducible apply pu_I); (walk_at "pu"); (walk_at "pu"); (walk_at "cond"))
  | ((with_reducible apply pu_chain); (walk_at "pu"); (walk_at "pu"); (walk_at "pu"))
  | ((with_reducible apply pu_len); (walk_at "pu"); (walk_at "sql"))
  | ((with_reducible apply pu_ix); (walk_at "pu"); (walk_at "pu"); (walk_at "sql"); assumption)
  | ((with_reducible apply pu_eqL); (walk_at "pu"); (walk_at "pu"); (walk_at "sql"); (walk_at "sql"))
  | ((with_reducible apply pu_neL); (walk_at "pu"); (walk_at "pu"); (walk_at "sql"); (walk_at "sql")))
noncomputable def top (i : Nat) : Stmt := PySem.Challenge.pw_calmcount_k08_refused.main.body.getD i (.Pass ⟨0, 0, 0, 0⟩)
noncomputable abbrev s_is_whole : Stmt := top 7
noncomputable abbrev s_is_figure : Stmt := top 8
noncomputable abbrev s_worth : Stmt := top 9
noncomputable abbrev s_twos_are_apart : Stmt := top 10
noncomputable abbrev s_mirrored : Stmt := top 11
noncomputable abbrev s_is_calm : Stmt := top 12
noncomputable abbrev s_refuse_if_not_calm : Stmt := top 13
noncomputable abbrev s_settled : Stmt := top 14
noncomputable abbrev s_refuse_if_no_place : Stmt := top 17
noncomputable abbrev s_mirror : Stmt := top 18
noncomputable abbrev s_figure_at : Stmt := top 19
noncomputable abbrev s_seen : Stmt := top 20
noncomputable abbrev s_first_above : Stmt := top 21
noncomputable abbrev s_finds_two_below : Stmt := top 22
noncomputable abbrev s_grown : Stmt := top 23
noncomputable abbrev s_figures_behind : Stmt := top 24
noncomputable abbrev s_step : Stmt := top 25
noncomputable abbrev s_changes : Stmt := top 26
noncomputable abbrev s_put : Stmt := top 27
noncomputable abbrev s_turned_back : Stmt := top 28
noncomputable abbrev s_added : Stmt := top 29
noncomputable abbrev s_taken : Stmt := top 30
noncomputable abbrev s_joined : Stmt := top 31
noncomputable abbrev s_Counter___init__ : Stmt := inClass (top 33) 0
noncomputable abbrev s_Counter_add : Stmt := inClass (top 33) 1
noncomputable abbrev s_Counter_take : Stmt := inClass (top 33) 2
noncomputable abbrev s_Counter_carry_out : Stmt := inClass (top 33) 3
noncomputable abbrev s_Counter_undo : Stmt := inClass (top 33) 4
noncomputable abbrev s_Counter_figures : Stmt := inClass (top 33) 5
noncomputable abbrev s_Counter_amount : Stmt := inClass (top 33) 6
noncomputable abbrev s_Counter_many : Stmt := inClass (top 33) 7
noncomputable abbrev s_shown : Stmt := top 36
noncomputable abbrev s_law_cell_at : Stmt := top 38
noncomputable abbrev s_law_calm : Stmt := top 39
noncomputable abbrev s_law_made_calm : Stmt := top 40
noncomputable abbrev s_law_spoiled : Stmt := top 41
noncomputable abbrev s_law_place : Stmt := top 42
noncomputable abbrev s_law_asked : Stmt := top 43
noncomputable abbrev s_law_kinds : Stmt := top 44
noncomputable abbrev s_law_told : Stmt := top 45
noncomputable abbrev s_law_all_told : Stmt := top 46
noncomputable abbrev s_law_deed_told : Stmt := top 47
noncomputable abbrev s_law_undo_told : Stmt := top 48
noncomputable abbrev s_law_counter : Stmt := top 49
noncomputable abbrev s_law : Stmt := top 50
theorem sc_is_whole : FnScope ["value"] ["value"] (defScope s_is_whole) := ⟨rfl, rfl, rfl, by decide +kernel, rfl, by decide +kernel, by decide +kernel⟩
theorem sc_is_figure : FnScope ["value"] ["value"] (defScope s_is_figure) := ⟨rfl, rfl, rfl, by decide +kernel, rfl, by decide +kernel, by decide +kernel⟩
theorem sc_worth : FnScope ["row", "total", "figure"] ["row"] (defScope s_worth) := ⟨rfl, rfl, rfl, by decide +kernel, rfl, by decide +kernel, by decide +kernel⟩
theorem sc_twos_are_apart : FnScope ["row", "open_two", "figure"] ["row"] (defScope s_twos_are_apart) := ⟨rfl, rfl, rfl, by decide +kernel, rfl, by decide +kernel, by decide +kernel⟩
theorem sc_mirrored : FnScope ["row"] ["row"] (defScope s_mirrored) := ⟨rfl, rfl, rfl, by decide +kernel, rfl, by decide +kernel, by decide +kernel⟩
theorem sc_is_calm : FnScope ["row", "figure"] ["row"] (defScope s_is_calm) := ⟨rfl, rfl, rfl, by decide +kernel, rfl, by decide +kernel, by decide +kernel⟩
theorem sc_refuse_if_not_calm : FnScope ["row"] ["row"] (defScope s_refuse_if_not_calm) := ⟨rfl, rfl, rfl, by decide +kernel, rfl, by decide +kernel, by decide +kernel⟩
theorem sc_settled : FnScope ["row", "total", "unread", "figure"] ["row"] (defScope s_settled) := ⟨rfl, rfl, rfl, by decide +kernel, rfl, by decide +kernel, by decide +kernel⟩
theorem sc_refuse_if_no_place : FnScope ["place"] ["place"] (defScope s_refuse_if_no_place) := ⟨rfl, rfl, rfl, by decide +kernel, rfl, by decide +kernel, by decide +kernel⟩
theorem sc_mirror : FnScope ["figure", "up"] ["figure", "up"] (defScope s_mirror) := ⟨rfl, rfl, rfl, by decide +kernel, rfl, by decide +kernel, by decide +kernel⟩
theorem sc_figure_at : FnScope ["row", "place"] ["row", "place"] (defScope s_figure_at) := ⟨rfl, rfl, rfl, by decide +kernel, rfl, by decide +kernel, by decide +kernel⟩
theorem sc_seen : FnScope ["row", "place", "up"] ["row", "place", "up"] (defScope s_seen) := ⟨rfl, rfl, rfl, by decide +kernel, rfl, by decide +kernel, by decide +kernel⟩
theorem sc_first_above : FnScope ["row", "place", "up", "above"] ["row", "place", "up"] (defScope s_first_above) := ⟨rfl, rfl, rfl, by decide +kernel, rfl, by decide +kernel, by decide +kernel⟩
theorem sc_finds_two_below : FnScope ["row", "place", "up", "below"] ["row", "place", "up"] (defScope s_finds_two_below) := ⟨rfl, rfl, rfl, by decide +kernel, rfl, by decide +kernel, by decide +kernel⟩
theorem sc_grown : FnScope ["row", "place", "up"] ["row", "place", "up"] (defScope s_grown) := ⟨rfl, rfl, rfl, by decide +kernel, rfl, by decide +kernel, by decide +kernel⟩
theorem sc_figures_behind : FnScope ["row", "place", "up", "figure", "above"] ["row", "place", "up"] (defScope s_figures_behind) := ⟨rfl, rfl, rfl, by decide +kernel, rfl, by decide +kernel, by decide +kernel⟩
theorem sc_step : FnScope ["row", "place", "up"] ["row", "place", "up"] (defScope s_step) := ⟨rfl, rfl, rfl, by decide +kernel, rfl, by decide +kernel, by decide +kernel⟩
theorem sc_changes : FnScope ["row", "place", "up"] ["row", "place", "up"] (defScope s_changes) := ⟨rfl, rfl, rfl, by decide +kernel, rfl, by decide +kernel, by decide +kernel⟩
theorem sc_put : FnScope ["row", "some", "made", "place", "before", "behind"] ["row", "some"] (defScope s_put) := ⟨rfl, rfl, rfl, by decide +kernel, rfl, by decide +kernel, by decide +kernel⟩
theorem sc_turned_back : FnScope ["some"] ["some"] (defScope s_turned_back) := ⟨rfl, rfl, rfl, by decide +kernel, rfl, by decide +kernel, by decide +kernel⟩
theorem sc_added : FnScope ["row", "place"] ["row", "place"] (defScope s_added) := ⟨rfl, rfl, rfl, by decide +kernel, rfl, by decide +kernel, by decide +kernel⟩
theorem sc_taken : FnScope ["row", "place"] ["row", "place"] (defScope s_taken) := ⟨rfl, rfl, rfl, by decide +kernel, rfl, by decide +kernel, by decide +kernel⟩
theorem sc_joined : FnScope ["one", "other", "made", "place", "figure", "turn"] ["one", "other"] (defScope s_joined) := ⟨rfl, rfl, rfl, by decide +kernel, rfl, by decide +kernel, by decide +kernel⟩
theorem sc_Counter___init__ : FnScope ["self"] ["self"] (defScope s_Counter___init__) := ⟨rfl, rfl, rfl, by decide +kernel, rfl, by decide +kernel, by decide +kernel⟩
theorem sc_Counter_add : FnScope ["self", "place"] ["self", "place"] (defScope s_Counter_add) := ⟨rfl, rfl, rfl, by decide +kernel, rfl, by decide +kernel, by decide +kernel⟩
theorem sc_Counter_take : FnScope ["self", "place"] ["self", "place"] (defScope s_Counter_take) := ⟨rfl, rfl, rfl, by decide +kernel, rfl, by decide +kernel, by decide +kernel⟩
theorem sc_Counter_carry_out : FnScope ["self", "place", "up", "some"] ["self", "place", "up"] (defScope s_Counter_carry_out) := ⟨rfl, rfl, rfl, by decide +kernel, rfl, by decide +kernel, by decide +kernel⟩
theorem sc_Counter_undo : FnScope ["self", "some"] ["self"] (defScope s_Counter_undo) := ⟨rfl, rfl, rfl, by decide +kernel, rfl, by decide +kernel, by decide +kernel⟩
theorem sc_Counter_figures : FnScope ["self"] ["self"] (defScope s_Counter_figures) := ⟨rfl, rfl, rfl, by decide +kernel, rfl, by decide +kernel, by decide +kernel⟩
theorem sc_Counter_amount : FnScope ["self"] ["self"] (defScope s_Counter_amount) := ⟨rfl, rfl, rfl, by decide +kernel, rfl, by decide +kernel, by decide +kernel⟩
theorem sc_Counter_many : FnScope ["self"] ["self"] (defScope s_Counter_many) := ⟨rfl, rfl, rfl, by decide +kernel, rfl, by decide +kernel, by decide +kernel⟩
theorem sc_shown : FnScope ["row"] ["row"] (defScope s_shown) := ⟨rfl, rfl, rfl, by decide +kernel, rfl, by decide +kernel, by decide +kernel⟩
theorem sc_law_cell_at : FnScope ["_law_script", "_law_k"] ["_law_script", "_law_k"] (defScope s_law_cell_at) := ⟨rfl, rfl, rfl, by decide +kernel, rfl, by decide +kernel, by decide +kernel⟩
theorem sc_law_calm : FnScope ["_law_row", "_law_twos", "_law_lows", "_law_figure"] ["_law_row"] (defScope s_law_calm) := ⟨rfl, rfl, rfl, by decide +kernel, rfl, by decide +kernel, by decide +kernel⟩
theorem sc_law_made_calm : FnScope ["_law_figures", "_law_row", "_law_two", "_law_low", "_law_figure"] ["_law_figures"] (defScope s_law_made_calm) := ⟨rfl, rfl, rfl, by decide +kernel, rfl, by decide +kernel, by decide +kernel⟩
theorem sc_law_spoiled : FnScope ["_law_script", "_law_row", "_law_ways", "_law_far", "_law_at", "_law_way", "_law_some"] ["_law_script", "_law_row"] (defScope s_law_spoiled) := ⟨rfl, rfl, rfl, by decide +kernel, rfl, by decide +kernel, by decide +kernel⟩
theorem sc_law_place : FnScope ["_law_way", "_law_cell"] ["_law_way", "_law_cell"] (defScope s_law_place) := ⟨rfl, rfl, rfl, by decide +kernel, rfl, by decide +kernel, by decide +kernel⟩
theorem sc_law_asked : FnScope ["_law_way", "_law_row", "_law_place_here"] ["_law_way", "_law_row", "_law_place_here"] (defScope s_law_asked) := ⟨rfl, rfl, rfl, by decide +kernel, rfl, by decide +kernel, by decide +kernel⟩
theorem sc_law_kinds : FnScope ["_law_e"] ["_law_e"] (defScope s_law_kinds) := ⟨rfl, rfl, rfl, by decide +kernel, rfl, by decide +kernel, by decide +kernel⟩
theorem sc_law_told : FnScope ["_law_way", "_law_row", "_law_place_here", "_law_told_here", "_law_e"] ["_law_way", "_law_row", "_law_place_here"] (defScope s_law_told) := ⟨rfl, rfl, rfl, by decide +kernel, rfl, by decide +kernel, by decide +kernel⟩
theorem sc_law_all_told : FnScope ["_law_row", "_law_place_here", "_law_good", "_law_handed", "_law_way", "_law_due"] ["_law_row", "_law_place_here", "_law_good"] (defScope s_law_all_told) := ⟨rfl, rfl, rfl, by decide +kernel, rfl, by decide +kernel, by decide +kernel⟩
theorem sc_law_deed_told : FnScope ["_law_counter_here", "_law_place_here", "_law_up", "_law_told_here", "_law_e"] ["_law_counter_here", "_law_place_here", "_law_up"] (defScope s_law_deed_told) := ⟨rfl, rfl, rfl, by decide +kernel, rfl, by decide +kernel, by decide +kernel⟩
theorem sc_law_undo_told : FnScope ["_law_counter_here", "_law_told_here", "_law_e"] ["_law_counter_here"] (defScope s_law_undo_told) := ⟨rfl, rfl, rfl, by decide +kernel, rfl, by decide +kernel, by decide +kernel⟩
theorem sc_law_counter : FnScope ["_law_place_here", "_law_good", "_law_near", "_law_up", "_law_counter_here", "_law_row", "_law_due", "_law_k"] ["_law_place_here", "_law_good", "_law_near", "_law_up"] (defScope s_law_counter) := ⟨rfl, rfl, rfl, by decide +kernel, rfl, by decide +kernel, by decide +kernel⟩
theorem sc_law : FnScope ["_law_script", "_law_row", "_law_spoiled_here", "_law_ways", "_law_way", "_law_place_here", "_law_near"] ["_law_script"] (defScope s_law) := ⟨rfl, rfl, rfl, by decide +kernel, rfl, by decide +kernel, by decide +kernel⟩
structure Dfn (K : PySem.W.Frag) (mg : Str → Option Value) (x : Str) (st : Stmt) (ps : List Str) (f : Addr) (fd : FuncData) : Prop where
  fn : Fun K x x st f fd
  mg : mg x = some (.ref f)
  bd : Binds K fd ps []
structure DfnM (K : PySem.W.Frag) (x qual : Str) (st : Stmt) (ps : List Str) (f : Addr) (fd : FuncData) : Prop where
  fn : Fun K x qual st f fd
  bd : Binds K fd ps []
structure DfnD (K : PySem.W.Frag) (mg : Str → Option Value) (x : Str) (st : Stmt) (ps : List Str) (f : Addr) (fd : FuncData) : Prop where
  fn : FunD K x x st f fd
  mg : mg x = some (.ref f)
  bd : Binds K fd ps []
  bd1 : Binds K fd ps [.bool true]
set_option genInjectivity false in
set_option genSizeOfSpec false in
structure Adr where
  c_own : Addr
  c_CountError : Addr
  c_NotCalm : Addr
  c_NoPlace : Addr
  c_NothingDone : Addr
  c_NoText : Addr
  a_is_whole : Addr
  d_is_whole : FuncData
  a_is_figure : Addr
  d_is_figure : FuncData
  a_worth : Addr
  d_worth : FuncData
  a_twos_are_apart : Addr
  d_twos_are_apart : FuncData
  a_mirrored : Addr
  d_mirrored : FuncData
  a_is_calm : Addr
  d_is_calm : FuncData
  a_refuse_if_not_calm : Addr
  d_refuse_if_not_calm : FuncData
  a_settled : Addr
  d_settled : FuncData
  a_refuse_if_no_place : Addr
  d_refuse_if_no_place : FuncData
  a_mirror : Addr
  d_mirror : FuncData
  a_figure_at : Addr
  d_figure_at : FuncData
  a_seen : Addr
  d_seen : FuncData
  a_first_above : Addr
  d_first_above : FuncData
  a_finds_two_below : Addr
  d_finds_two_below : FuncData
  a_grown : Addr
  d_grown : FuncData
  a_figures_behind : Addr
  d_figures_behind : FuncData
  a_step : Addr
  d_step : FuncData
  a_changes : Addr
  d_changes : FuncData
  a_put : Addr
  d_put : FuncData
  a_turned_back : Addr
  d_turned_back : FuncData
  a_added : Addr
  d_added : FuncData
  a_taken : Addr
  d_taken : FuncData
  a_joined : Addr
  d_joined : FuncData
  a_Counter___init__ : Addr
  d_Counter___init__ : FuncData
  a_Counter_add : Addr
  d_Counter_add : FuncData
  a_Counter_take : Addr
  d_Counter_take : FuncData
  a_Counter_carry_out : Addr
  d_Counter_carry_out : FuncData
  a_Counter_undo : Addr
  d_Counter_undo : FuncData
  a_Counter_figures : Addr
  d_Counter_figures : FuncData
  a_Counter_amount : Addr
  d_Counter_amount : FuncData
  a_Counter_many : Addr
  d_Counter_many : FuncData
  a_shown : Addr
  d_shown : FuncData
  a_law_cell_at : Addr
  d_law_cell_at : FuncData
  a_law_calm : Addr
  d_law_calm : FuncData
  a_law_made_calm : Addr
  d_law_made_calm : FuncData
  a_law_spoiled : Addr
  d_law_spoiled : FuncData
  a_law_place : Addr
  d_law_place : FuncData
  a_law_asked : Addr
  d_law_asked : FuncData
  a_law_kinds : Addr
  d_law_kinds : FuncData
  a_law_told : Addr
  d_law_told : FuncData
  a_law_all_told : Addr
  d_law_all_told : FuncData
  a_law_deed_told : Addr
  d_law_deed_told : FuncData
  a_law_undo_told : Addr
  d_law_undo_told : FuncData
  a_law_counter : Addr
  d_law_counter : FuncData
  a_law : Addr
  d_law : FuncData
structure Txt (K : PySem.W.Frag) (mg : Str → Option Value) (t : Adr) : Prop where
  f_is_whole : Dfn K mg "is_whole" s_is_whole ["value"] t.a_is_whole t.d_is_whole
  f_is_figure : Dfn K mg "is_figure" s_is_figure ["value"] t.a_is_figure t.d_is_figure
  f_worth : Dfn K mg "worth" s_worth ["row"] t.a_worth t.d_worth
  f_twos_are_apart : Dfn K mg "twos_are_apart" s_twos_are_apart ["row"] t.a_twos_are_apart t.d_twos_are_apart
  f_mirrored : Dfn K mg "mirrored" s_mirrored ["row"] t.a_mirrored t.d_mirrored
  f_is_calm : Dfn K mg "is_calm" s_is_calm ["row"] t.a_is_calm t.d_is_calm
  f_refuse_if_not_calm : Dfn K mg "refuse_if_not_calm" s_refuse_if_not_calm ["row"] t.a_refuse_if_not_calm t.d_refuse_if_not_calm
  f_settled : Dfn K mg "settled" s_settled ["row"] t.a_settled t.d_settled
  f_refuse_if_no_place : Dfn K mg "refuse_if_no_place" s_refuse_if_no_place ["place"] t.a_refuse_if_no_place t.d_refuse_if_no_place
  f_mirror : Dfn K mg "mirror" s_mirror ["figure", "up"] t.a_mirror t.d_mirror
  f_figure_at : Dfn K mg "figure_at" s_figure_at ["row", "place"] t.a_figure_at t.d_figure_at
  f_seen : Dfn K mg "seen" s_seen ["row", "place", "up"] t.a_seen t.d_seen
  f_first_above : Dfn K mg "first_above" s_first_above ["row", "place", "up"] t.a_first_above t.d_first_above
  f_finds_two_below : Dfn K mg "finds_two_below" s_finds_two_below ["row", "place", "up"] t.a_finds_two_below t.d_finds_two_below
  f_grown : Dfn K mg "grown" s_grown ["row", "place", "up"] t.a_grown t.d_grown
  f_figures_behind : Dfn K mg "figures_behind" s_figures_behind ["row", "place", "up"] t.a_figures_behind t.d_figures_behind
  f_step : Dfn K mg "step" s_step ["row", "place", "up"] t.a_step t.d_step
  f_changes : DfnD K mg "changes" s_changes ["row", "place", "up"] t.a_changes t.d_changes
  f_put : Dfn K mg "put" s_put ["row", "some"] t.a_put t.d_put
  f_turned_back : Dfn K mg "turned_back" s_turned_back ["some"] t.a_turned_back t.d_turned_back
  f_added : Dfn K mg "added" s_added ["row", "place"] t.a_added t.d_added
  f_taken : Dfn K mg "taken" s_taken ["row", "place"] t.a_taken t.d_taken
  f_joined : Dfn K mg "joined" s_joined ["one", "other"] t.a_joined t.d_joined
  f_Counter___init__ : DfnM K "__init__" "Counter.__init__" s_Counter___init__ ["self"] t.a_Counter___init__ t.d_Counter___init__
  f_Counter_add : DfnM K "add" "Counter.add" s_Counter_add ["self", "place"] t.a_Counter_add t.d_Counter_add
  m_add : Meth K t.c_own "add" t.a_Counter_add
  f_Counter_take : DfnM K "take" "Counter.take" s_Counter_take ["self", "place"] t.a_Counter_take t.d_Counter_take
  m_take : Meth K t.c_own "take" t.a_Counter_take
  f_Counter_carry_out : DfnM K "carry_out" "Counter.carry_out" s_Counter_carry_out ["self", "place", "up"] t.a_Counter_carry_out t.d_Counter_carry_out
  m_carry_out : Meth K t.c_own "carry_out" t.a_Counter_carry_out
  f_Counter_undo : DfnM K "undo" "Counter.undo" s_Counter_undo ["self"] t.a_Counter_undo t.d_Counter_undo
  m_undo : Meth K t.c_own "undo" t.a_Counter_undo
  f_Counter_figures : DfnM K "figures" "Counter.figures" s_Counter_figures ["self"] t.a_Counter_figures t.d_Counter_figures
  m_figures : Meth K t.c_own "figures" t.a_Counter_figures
  f_Counter_amount : DfnM K "amount" "Counter.amount" s_Counter_amount ["self"] t.a_Counter_amount t.d_Counter_amount
  m_amount : Meth K t.c_own "amount" t.a_Counter_amount
  f_Counter_many : DfnM K "many" "Counter.many" s_Counter_many ["self"] t.a_Counter_many t.d_Counter_many
  m_many : Meth K t.c_own "many" t.a_Counter_many
  f_shown : Dfn K mg "shown" s_shown ["row"] t.a_shown t.d_shown
  f_law_cell_at : Dfn K mg "_law_cell_at" s_law_cell_at ["_law_script", "_law_k"] t.a_law_cell_at t.d_law_cell_at
  f_law_calm : Dfn K mg "_law_calm" s_law_calm ["_law_row"] t.a_law_calm t.d_law_calm
  f_law_made_calm : Dfn K mg "_law_made_calm" s_law_made_calm ["_law_figures"] t.a_law_made_calm t.d_law_made_calm
  f_law_spoiled : Dfn K mg "_law_spoiled" s_law_spoiled ["_law_script", "_law_row"] t.a_law_spoiled t.d_law_spoiled
  f_law_place : Dfn K mg "_law_place" s_law_place ["_law_way", "_law_cell"] t.a_law_place t.d_law_place
  f_law_asked : Dfn K mg "_law_asked" s_law_asked ["_law_way", "_law_row", "_law_place_here"] t.a_law_asked t.d_law_asked
  f_law_kinds : Dfn K mg "_law_kinds" s_law_kinds ["_law_e"] t.a_law_kinds t.d_law_kinds
  f_law_told : Dfn K mg "_law_told" s_law_told ["_law_way", "_law_row", "_law_place_here"] t.a_law_told t.d_law_told
  f_law_all_told : Dfn K mg "_law_all_told" s_law_all_told ["_law_row", "_law_place_here", "_law_good"] t.a_law_all_told t.d_law_all_told
  f_law_deed_told : Dfn K mg "_law_deed_told" s_law_deed_told ["_law_counter_here", "_law_place_here", "_law_up"] t.a_law_deed_told t.d_law_deed_told
  f_law_undo_told : Dfn K mg "_law_undo_told" s_law_undo_told ["_law_counter_here"] t.a_law_undo_told t.d_law_undo_told
  f_law_counter : Dfn K mg "_law_counter" s_law_counter ["_law_place_here", "_law_good", "_law_near", "_law_up"] t.a_law_counter t.d_law_counter
  f_law : Dfn K mg "law" s_law ["_law_script"] t.a_law t.d_law
  cl_own : Cls K t.c_own
  mg_own : mg "Counter" = some (.ref t.c_own)
  mk_own : Mk K t.c_own t.a_Counter___init__
  na_row : NoAttr K t.c_own "row"
  na_deeds : NoAttr K t.c_own "deeds"
  kt_NotCalm_CountError : PySem.W.kitOne K (.ref t.c_NotCalm) (.ref t.c_CountError) = some true
  es_NotCalm_CountError : errSub K t.c_NotCalm t.c_CountError = true
  kt_NotCalm_NotCalm : PySem.W.kitOne K (.ref t.c_NotCalm) (.ref t.c_NotCalm) = some true
  es_NotCalm_NotCalm : errSub K t.c_NotCalm t.c_NotCalm = true
  kt_NotCalm_NoPlace : PySem.W.kitOne K (.ref t.c_NotCalm) (.ref t.c_NoPlace) = some false
  kt_NotCalm_NothingDone : PySem.W.kitOne K (.ref t.c_NotCalm) (.ref t.c_NothingDone) = some false
  kt_NotCalm_NoText : PySem.W.kitOne K (.ref t.c_NotCalm) (.ref t.c_NoText) = some false
  kt_NotCalm_ValueError : PySem.W.kitOne K (.ref t.c_NotCalm) (.type "ValueError") = some true
  kt_NoPlace_CountError : PySem.W.kitOne K (.ref t.c_NoPlace) (.ref t.c_CountError) = some true
  es_NoPlace_CountError : errSub K t.c_NoPlace t.c_CountError = true
  kt_NoPlace_NotCalm : PySem.W.kitOne K (.ref t.c_NoPlace) (.ref t.c_NotCalm) = some false
  kt_NoPlace_NoPlace : PySem.W.kitOne K (.ref t.c_NoPlace) (.ref t.c_NoPlace) = some true
  es_NoPlace_NoPlace : errSub K t.c_NoPlace t.c_NoPlace = true
  kt_NoPlace_NothingDone : PySem.W.kitOne K (.ref t.c_NoPlace) (.ref t.c_NothingDone) = some false
  kt_NoPlace_NoText : PySem.W.kitOne K (.ref t.c_NoPlace) (.ref t.c_NoText) = some false
  kt_NoPlace_ValueError : PySem.W.kitOne K (.ref t.c_NoPlace) (.type "ValueError") = some true
  kt_NothingDone_CountError : PySem.W.kitOne K (.ref t.c_NothingDone) (.ref t.c_CountError) = some true
  es_NothingDone_CountError : errSub K t.c_NothingDone t.c_CountError = true
  kt_NothingDone_NotCalm : PySem.W.kitOne K (.ref t.c_NothingDone) (.ref t.c_NotCalm) = some false
  kt_NothingDone_NoPlace : PySem.W.kitOne K (.ref t.c_NothingDone) (.ref t.c_NoPlace) = some false
  kt_NothingDone_NothingDone : PySem.W.kitOne K (.ref t.c_NothingDone) (.ref t.c_NothingDone) = some true
  es_NothingDone_NothingDone : errSub K t.c_NothingDone t.c_NothingDone = true
  kt_NothingDone_NoText : PySem.W.kitOne K (.ref t.c_NothingDone) (.ref t.c_NoText) = some false
  kt_NothingDone_ValueError : PySem.W.kitOne K (.ref t.c_NothingDone) (.type "ValueError") = some true
  e_CountError : Err K mg "CountError" t.c_CountError
  e_NotCalm : Err K mg "NotCalm" t.c_NotCalm
  e_NoPlace : Err K mg "NoPlace" t.c_NoPlace
  e_NothingDone : Err K mg "NothingDone" t.c_NothingDone
  e_NoText : Err K mg "NoText" t.c_NoText
  x_NotCalm : Exi K t.c_NotCalm
  x_NoPlace : Exi K t.c_NoPlace
  x_NothingDone : Exi K t.c_NothingDone
  b_isinstance : mg "isinstance" = none
  b_int : mg "int" = none
  b_bool : mg "bool" = none
  b_reversed : mg "reversed" = none
  b_len : mg "len" = none
  b_list : mg "list" = none
  b_enumerate : mg "enumerate" = none
  b_range : mg "range" = none
  b_abs : mg "abs" = none
  b_ValueError : mg "ValueError" = none
  g_LAST_PLACE : ∃ u, mg "LAST_PLACE" = some u ∧ RelV (.int 399) u
  g_SIGNS : ∃ u, mg "SIGNS" = some u ∧ RelV (.str "-012") u
noncomputable def sp_whole : Sp := fun vs H Q _ => ∃ i : Int, vs = [.int i] ∧ Q (.bl true) H
noncomputable def sp_figure : Sp := fun vs H Q _ => ∃ i : Int, vs = [.int i] ∧ Q (.bl (isFig i)) H
noncomputable def sp_twos (K : PySem.W.Frag) : Sp := fun vs H Q _ => ∃ (a : Addr) (ns : List Int), vs = [.ref a] ∧ SqL K H a (iv ns) ∧ Q (.bl (apart false ns)) H
noncomputable def sp_mirrored (K : PySem.W.Frag) : Sp := fun vs H Q _ => ∃ (a : Addr) (ns : List Int), vs = [.ref a] ∧ SqL K H a (iv ns) ∧ ns.length ≤ 90000 ∧ ∀ (r : Addr) (H' : Hp), H r = none → Same H H' → H' r = some (.lst (iv (mir ns))) → Q (.ref r) H'
noncomputable def sp_iscalm (K : PySem.W.Frag) : Sp := fun vs H Q _ => ∃ (a : Addr) (ns : List Int), vs = [.ref a] ∧ SqL K H a (iv ns) ∧ ns.length ≤ 90000 ∧ ∀ H', Same H H' → Q (.bl (calmF ns)) H'
section
variable {P : Program} {w : World} {K : PySem.W.Frag} {mg : Str → Option Value} {base : Heap} {t : Adr}
theorem ok_iswhole (T : Txt K mg t) : FnOk P w K mg base CX0 1 t.a_is_whole t.d_is_whole ["value"] sp_whole := by
  refine T.f_is_whole.fn.ok sc_is_whole (fun vs H Q E h => ?_) (fun cdv A outer s H vs Q E hr h => ?_)
  · obtain ⟨i, rfl, _⟩ := h
    rfl
  obtain ⟨i, rfl, q⟩ := h
  refine ⟨_, (pss_one (ps_ret (pe_and (pe_callB call_isin rfl T.b_isinstance boot_isin (pa_cons (pv 0) (pa_cons (pe_bltn (v := .ty "int") rfl T.b_int PyProof.Rows.boot_int rfl) pa_nil))) (pe_one (pe_not (pe_callB call_isin rfl T.b_isinstance boot_isin (pa_cons (pv 0) (pa_cons (pe_bltn (v := .ty "bool") rfl T.b_bool PyProof.Rows.boot_bool rfl) pa_nil)))))))), ?_⟩
  refine ⟨_, rfl, _, _, _, _, rfl, TyOf.int _, kit_int_int K, _, rfl, iteT ?_⟩
  exact ⟨_, rfl, _, _, _, _, rfl, TyOf.int _, kit_int_bool K, _, rfl, q⟩
theorem ok_figure (T : Txt K mg t) (G_is_whole : FnOk P w K mg base CX0 1 t.a_is_whole t.d_is_whole ["value"] sp_whole) : FnOk P w K mg base CX0 2 t.a_is_figure t.d_is_figure ["value"] sp_figure := by
  refine T.f_is_figure.fn.ok sc_is_figure (fun vs H Q E h => ?_) (fun cdv A outer s H vs Q E hr h => ?_)
  · obtain ⟨i, rfl, _⟩ := h
    rfl
  obtain ⟨i, rfl, q⟩ := h
  refine ⟨_, (pss_one (ps_ret (pe_and (pe_call G_is_whole (hr.mono (by decide)) rfl T.f_is_whole.mg T.f_is_whole.fn.kp T.f_is_whole.bd .nil pass0 (pa_cons (pv 0) pa_nil)) (pe_one (pe_chain op_le op_le (pe_un un_neg pe_int) (pv 0) pe_int))))), ?_⟩
  walk_at "sq"
  refine st_ret (pu_and (pu_call (pu_cons (pu_var rfl) pu_nil) (fun Q q => ⟨i, rfl, q⟩)) (fun _ => by walk_at "pu")) ?_
  exact q
theorem ok_twos (T : Txt K mg t) : FnOk P w K mg base CX0 1 t.a_twos_are_apart t.d_twos_are_apart ["row"] (sp_twos K) := by
  refine T.f_twos_are_apart.fn.ok sc_twos_are_apart (fun vs H Q E h => ?_) (fun cdv A outer s H vs Q E hr h => ?_)
  · obtain ⟨a, ns, rfl, _⟩ := h
    rfl
  obtain ⟨a, ns, rfl, hS, q⟩ := h
  refine ⟨_, (pss_cons (ps_set (i := 1) sc_twos_are_apart.nd rfl (Or.inl rfl) pe_bl)
    (pss_cons (ps_for PassesOwn.never rfl (pi_list (pv 0)) (pg_name (i := 2) sc_twos_are_apart.nd rfl (Or.inl rfl)) (pss_cons (ps_if (PW.pt (pw_and (pt_cmpR op_eq (pv 2) pe_int (nomark _)) (pw_and1 (pt_val (pv 1))))) (pss_one (ps_ret pe_bl)) pss_nil)
    (pss_one (ps_if (pt_cmpR op_eq (pv 2) pe_int (nomark _)) (pss_one (ps_set (i := 1) sc_twos_are_apart.nd rfl (Or.inl rfl) pe_bl)) (pss_one (ps_if (pt_cmpR op_lt (pv 2) pe_int (nomark _)) (pss_one (ps_set (i := 1) sc_twos_are_apart.nd rfl (Or.inl rfl) pe_bl)) pss_nil))))))
    (pss_one (ps_ret pe_bl)))), ?_⟩
  walk_at "sq"
  refine st_set (v := .bl false) (by walk_at "pu") ?_
  walk_at "sq"
  refine st_for (K := K) (a := a) (xs := iv ns) (by walk_at "pu") hS (fun i σ H2 => H2 = H ∧ ∃ b f, σ = [some (.ref a), some (.bl b), f] ∧ apart b (ns.drop i) = apart false ns)
    ⟨rfl, false, none, rfl, rfl⟩ (fun i σ H2 _ ⟨e, _⟩ => by rw [e]; exact hS) ?_ ?_
  · rintro i x σ H2 hx ⟨rfl, b, f, rfl, hb⟩
    obtain ⟨z, hz, rfl⟩ := ints_get hx
    rw [drop_at hz] at hb
    simp only [apart] at hb
    walk_at "sq"
    refine st_if (b := decide (z = 2) && b) (by walk_at "pu") (fun e => ?_) (fun e => ?_)
    · rw [Bool.and_eq_true] at e
      obtain ⟨e1, e2⟩ := e
      have e1 := of_decide_eq_true e1
      walk_at "sq"
      refine st_ret (v := .bl false) (by walk_at "pu") ?_
      rw [if_pos e1, if_pos e2] at hb
      rw [← hb] at q
      exact q
    · walk_at "sq"
      refine st_if (b := decide (z = 2)) (by walk_at "pu") (fun e1 => ?_) (fun e1 => ?_)
      · have e1' := of_decide_eq_true e1
        have e2 : b = false := by simpa [e1'] using e
        subst e2
        rw [if_pos e1'] at hb
        walk_at "sq"
        exact st_set (v := .bl true) (by walk_at "pu") ⟨rfl, _, _, rfl, hb⟩
      · have e1' := of_decide_eq_false e1
        rw [if_neg e1'] at hb
        walk_at "sq"
        refine st_if (b := decide (z < 1)) (by walk_at "pu") (fun e2 => ?_) (fun e2 => ?_)
        · rw [if_pos (of_decide_eq_true e2)] at hb
          walk_at "sq"
          exact st_set (v := .bl false) (by walk_at "pu") ⟨rfl, _, _, rfl, hb⟩
        · rw [if_neg (of_decide_eq_false e2)] at hb
          exact ⟨rfl, _, _, rfl, hb⟩
  · rintro σ H2 ⟨rfl, b, f, rfl, hb⟩
    rw [ints_len, List.drop_length] at hb
    walk_at "sq"
    refine st_ret (v := .bl true) (by walk_at "pu") ?_
    have e : apart b [] = true := rfl
    rw [← hb, e] at q
    exact q
theorem ok_mirrored (T : Txt K mg t) : FnOk P w K mg base CX0 1 t.a_mirrored t.d_mirrored ["row"] (sp_mirrored K) := by
  refine T.f_mirrored.fn.ok sc_mirrored (fun vs H Q E h => ?_) (fun cdv A outer s H vs Q E hr h => ?_)
  · obtain ⟨a, ns, rfl, _⟩ := h
    rfl
  obtain ⟨a, ns, rfl, hS, hl, q⟩ := h
  refine ⟨_, (pss_one (ps_ret (pe_compF (Nt := ["figure"]) [] [] rfl rfl (by decide +kernel) (by decide +kernel) rfl (by decide +kernel) rfl (pi_list (pv 0)) (fun _ _ _ _ _ => (pg_name (i := 0) (show List.Nodup ((["figure"] : List Str) ++ ([] : List Str) : List Str) by decide +kernel) rfl (Or.inl rfl))) (fun _ _ _ _ _ => (pe_op op_sub pe_int (pv 0)))))), ?_⟩
  refine ⟨_, rfl, a, rfl, ⟨_, hS⟩, fun r hr0 => comp_listF (K := K) (a := a) (xs := iv ns) (fun i H2 => Same H H2 ∧ H2 r = some (.lst (iv (mir (ns.take i))))) ⟨same_new hr0 _, upd_same⟩ (fun i H2 _ h => h.1.seq hS) ?_ ?_⟩
  · rintro i x H2 hx ⟨sm, h2⟩
    obtain ⟨z, hz, rfl⟩ := ints_get hx
    have hi := get_lt hz
    refine ⟨_, rfl, _, _, rfl, rfl, iv (mir (ns.take i)), h2, bigL (by rw [ints_len]; unfold mir; rw [List.length_map, List.length_take]; omega), same_upd hr0 sm _, ?_⟩
    rw [upd_same, take_at hz, mir_append, ← ints_app]
    rfl
  · rintro H2 ⟨sm, h2⟩
    rw [ints_len, List.take_length] at h2
    exact q r H2 hr0 sm h2
theorem end_test (ns : List Int) : endOk ns = !(decide ((0 : Int) < ((iv ns).length : Nat)) && decide (ns.getLast?.getD 1 = 0)) := by
  rw [ints_len]
  unfold endOk
  cases e : ns.getLast? with
  | none =>
    have : ns = [] := List.getLast?_eq_none_iff.mp e
    subst this
    rfl
  | some z =>
    have hne : ns ≠ [] := by intro q; rw [q] at e; cases e
    have hl : 0 < ns.length := List.length_pos_iff.mpr hne
    have hl' : (0 : Int) < (ns.length : Nat) := by omega
    rw [decT hl', Bool.true_and]
    congr 1
    by_cases q : z = 0
    · subst q; simp
    · simp [q]
theorem last_at {ns : List Int} (h : (0 : Int) < ((iv ns).length : Nat)) : atI (iv ns) (-1) = some (.int (ns.getLast?.getD 1)) := by
  rw [ints_len] at h
  have hne : ns ≠ [] := by intro q; subst q; exact absurd h (by decide)
  cases e : ns.getLast? with
  | none => exact absurd (List.getLast?_eq_none_iff.mp e) hne
  | some z => exact atI_end (last_ints e)
theorem pt_last {σ : St} {H : Hp} {a : Addr} {ns : List Int} {i : Nat} (hv : σ[i]? = some (some (.ref a))) (hS : SqL K H a (iv ns)) :
    PuT (tAnd (tTest (tOp (rI0 fun i j => .bl (decide (j < i))) (tCB (fun xs H Q => ∃ p ys, xs = [.ref p] ∧ (SqL K H p ys ∨ SqT K H p ys) ∧ Q (.int ys.length) H) (tCons (tVar i) tNil)) (tC (.int 0))))
      (tTest (tOp rEq (tOp (rIxL K) (tVar i) (tUn (rU fun i => .int (-i)) (tC (.int 1)))) (tC (.int 0))))) σ H (!endOk ns) := by
  rw [end_test, Bool.not_not]
  exact pt_and' (pu_test (pu_I0 (g := fun i j => .bl (decide (j < i))) (pu_len (K := K) (pu_var hv) hS) pu_c)) (fun e => pu_test (pu_eqI (pu_ix (K := K) (pu_var hv) (pu_U (g := fun i => .int (-i)) pu_c) hS (last_at (of_decide_eq_true e))) pu_c))
theorem ok_iscalm (T : Txt K mg t) (G_is_figure : FnOk P w K mg base CX0 2 t.a_is_figure t.d_is_figure ["value"] sp_figure) (G_twos_are_apart : FnOk P w K mg base CX0 1 t.a_twos_are_apart t.d_twos_are_apart ["row"] (sp_twos K))
    (G_mirrored : FnOk P w K mg base CX0 1 t.a_mirrored t.d_mirrored ["row"] (sp_mirrored K)) : FnOk P w K mg base CX0 3 t.a_is_calm t.d_is_calm ["row"] (sp_iscalm K) := by
  refine T.f_is_calm.fn.ok sc_is_calm (fun vs H Q E h => ?_) (fun cdv A outer s H vs Q E hr h => ?_)
  · obtain ⟨a, ns, rfl, _⟩ := h
    rfl
  obtain ⟨a, ns, rfl, hS, hl, q⟩ := h
  refine ⟨_, (pss_cons (ps_for PassesOwn.never rfl (pi_list (pv 0)) (pg_name (i := 1) sc_is_calm.nd rfl (Or.inl rfl)) (pss_one (ps_if (pt_not (pt_val (pe_call G_is_figure (hr.mono (by decide)) rfl T.f_is_figure.mg T.f_is_figure.fn.kp T.f_is_figure.bd .nil pass0 (pa_cons (pv 1) pa_nil)))) (pss_one (ps_ret pe_bl)) pss_nil)))
    (pss_cons (ps_if (PW.pt (pw_and (pt_cmpR op_gt (pe_callB call_len_seq rfl T.b_len PySem.boot_len (pa_cons (pv 0) pa_nil)) pe_int (nomark _)) (pw_and1 (pt_cmpR op_eq (pe_ix ix_list (pv 0) (pe_un un_neg pe_int) (fun _ _ => rfl)) pe_int (nomark _))))) (pss_one (ps_ret pe_bl)) pss_nil)
    (pss_one (ps_ret (pe_and (pe_call G_twos_are_apart (hr.mono (by decide)) rfl T.f_twos_are_apart.mg T.f_twos_are_apart.fn.kp T.f_twos_are_apart.bd .nil pass0 (pa_cons (pv 0) pa_nil)) (pe_one (pe_call G_twos_are_apart (hr.mono (by decide)) rfl T.f_twos_are_apart.mg T.f_twos_are_apart.fn.kp T.f_twos_are_apart.bd .nil pass0 (pa_cons (pe_call G_mirrored (hr.mono (by decide)) rfl T.f_mirrored.mg T.f_mirrored.fn.kp T.f_mirrored.bd .nil pass0 (pa_cons (pv 0) pa_nil)) pa_nil)))))))), ?_⟩
  walk_at "sq"
  refine st_for (K := K) (a := a) (xs := iv ns) (by walk_at "pu") hS (fun i σ H2 => H2 = H ∧ ∃ f, σ = [some (.ref a), f] ∧ (ns.take i).all isFig = true)
    ⟨rfl, none, rfl, rfl⟩ (fun i σ H2 _ ⟨e, _⟩ => by rw [e]; exact hS) ?_ ?_
  · rintro i x σ H2 hx ⟨rfl, f, rfl, hb⟩
    obtain ⟨z, hz, rfl⟩ := ints_get hx
    walk_at "sq"
    refine st_if (b := !isFig z) (pt_not' (pu_tB (pu_call (pu_cons (pu_var rfl) pu_nil) (fun Q q => ⟨z, rfl, q⟩)))) (fun e => ?_) (fun e => ?_)
    · walk_at "sq"
      refine st_ret (v := .bl false) (by walk_at "pu") ?_
      have e2 : ns.all isFig = false := by
        have hf : isFig z = false := by simpa using e
        rw [List.all_eq_false]
        exact ⟨z, List.mem_of_getElem? hz, by rw [hf]; simp⟩
      have := q H2 (Same.refl _)
      unfold calmF at this
      rw [e2] at this
      exact this
    · refine ⟨rfl, _, rfl, ?_⟩
      have e2 : isFig z = true := by simpa using e
      rw [take_at hz, List.all_append, hb]
      simp [e2]
  · rintro σ H2 ⟨rfl, f, rfl, hb⟩
    rw [ints_len, List.take_length] at hb
    have hq : ∀ H', Same H2 H' → Q (.bl (endOk ns && (apart false ns && apart false (mir ns)))) H' := fun H' sm => by
      have := q H' sm
      unfold calmF at this
      rw [hb, Bool.true_and] at this
      exact this
    walk_at "sq"
    refine st_if (pt_last (K := K) rfl hS) (fun e => ?_) (fun e => ?_)
    · walk_at "sq"
      refine st_ret (v := .bl false) (by walk_at "pu") ?_
      have := hq H2 (Same.refl _)
      rw [notT e] at this
      exact this
    · have hq' : ∀ H', Same H2 H' → Q (.bl (apart false ns && apart false (mir ns))) H' := fun H' sm => by
        have := hq H' sm
        rw [notF e] at this
        exact this
      walk_at "sq"
      refine ⟨_, rfl, a, ns, rfl, hS, _, rfl, ?_⟩
      refine ite2 (fun c => ?_) (fun c => ?_)
      · rw [c] at hq'
        exact ⟨_, rfl, a, ns, rfl, hS, hl, fun r H' nr sm hr' => ⟨r, mir ns, rfl, SqL.of hr', hq' H' sm⟩⟩
      · have c' : apart false ns = false := by simpa using c
        rw [c'] at hq'
        exact hq' H2 (Same.refl _)
theorem all_calm (T : Txt K mg t) : FnOk P w K mg base CX0 3 t.a_is_calm t.d_is_calm ["row"] (sp_iscalm K) := ok_iscalm T (ok_figure T (ok_iswhole T)) (ok_twos T) (ok_mirrored T)
end
noncomputable def sp_worth (K : PySem.W.Frag) : Sp := fun vs H Q _ => ∃ (a : Addr) (ns : List Int), vs = [.ref a] ∧ SqL K H a (iv ns) ∧ Q (.int (worthF ns)) H
section
variable {P : Program} {w : World} {K : PySem.W.Frag} {mg : Str → Option Value} {base : Heap} {t : Adr}
theorem ok_worth (T : Txt K mg t) : FnOk P w K mg base CX0 1 t.a_worth t.d_worth ["row"] (sp_worth K) := by
  refine T.f_worth.fn.ok sc_worth (fun vs H Q E h => ?_) (fun cdv A outer s H vs Q E hr h => ?_)
  · obtain ⟨a, ns, rfl, _⟩ := h
    rfl
  obtain ⟨a, ns, rfl, hS, q⟩ := h
  refine ⟨_, (pss_cons (ps_set (i := 1) sc_worth.nd rfl (Or.inl rfl) pe_int)
    (pss_cons (ps_for PassesOwn.never rfl (pi_rev rfl T.b_reversed (pa_cons (pv 0) pa_nil)) (pg_name (i := 2) sc_worth.nd rfl (Or.inl rfl)) (pss_one (ps_set (i := 1) sc_worth.nd rfl (Or.inl rfl) (pe_op op_add (pe_op op_mul pe_int (pv 1)) (pv 2)))))
    (pss_one (ps_ret (pv 1))))), ?_⟩
  refine ⟨_, rfl, a, _, rfl, hS, for_rev (K := K) (a := a) (xs := iv ns) (fun i σ H2 => H2 = H ∧ ∃ f, σ = [some (.ref a), some (.int (worthF (ns.drop (ns.length - i)))), f])
    ⟨rfl, none, by rw [Nat.sub_zero, List.drop_length]; rfl⟩ (fun i σ H2 _ ⟨e, _⟩ => by rw [e]; exact hS) ?_ ?_⟩
  · rintro i x σ H2 hi hx ⟨rfl, f, rfl⟩
    rw [ints_len] at hi hx
    obtain ⟨z, hz, rfl⟩ := ints_get hx
    refine ⟨_, rfl, _, _, rfl, rfl, Or.inl ⟨by decide, by decide⟩, _, rfl, _, _, rfl, rfl, rfl, some (.int z), ?_⟩
    have e1 : ns.length - i = (ns.length - 1 - i) + 1 := by omega
    have e2 : ns.length - (i + 1) = ns.length - 1 - i := by omega
    rw [e1, e2, drop_at hz]
    rfl
  · rintro σ H2 ⟨rfl, f, rfl⟩
    rw [ints_len, Nat.sub_self, List.drop_zero]
    exact ⟨_, rfl, q⟩
end
noncomputable def sp_cell (K : PySem.W.Frag) : Sp := fun vs H Q _ => ∃ (a : Addr) (ns : List Int) (k : Int), vs = [.ref a, .int k] ∧ SqL K H a (iv ns) ∧ 0 ≤ k ∧ ∀ v : Int, Q (.int v) H
section
variable {P : Program} {w : World} {K : PySem.W.Frag} {mg : Str → Option Value} {base : Heap} {t : Adr}
theorem ok_cell (T : Txt K mg t) : FnOk P w K mg base CX0 1 t.a_law_cell_at t.d_law_cell_at ["_law_script", "_law_k"] (sp_cell K) := by
  refine T.f_law_cell_at.fn.ok sc_law_cell_at (fun vs H Q E h => ?_) (fun cdv A outer s H vs Q E hr h => ?_)
  · obtain ⟨a, ns, k, rfl, _⟩ := h
    rfl
  obtain ⟨a, ns, k, rfl, hS, h0, q⟩ := h
  refine ⟨_, (pss_cons (ps_if (pt_cmpR op_lt (pv 1) (pe_callB call_len_seq rfl T.b_len PySem.boot_len (pa_cons (pv 0) pa_nil)) (nomark _)) (pss_one (ps_ret (pe_ix ix_list (pv 0) (pv 1) (fun _ _ => rfl)))) pss_nil)
    (pss_one (ps_ret pe_int))), ?_⟩
  walk_at "sq"
  refine st_if (by walk_at "pu") (fun c => ?_) (fun c => ?_)
  · have c' : k < (((iv ns).length : Nat) : Int) := of_decide_eq_true c
    rw [ints_len] at c'
    have hv := atI_ints h0 c'
    walk_at "sq"
    exact st_ret (by walk_at "pu") (q _)
  · walk_at "sq"
    exact q 0
end
noncomputable def sp_lcalm (K : PySem.W.Frag) : Sp := fun vs H Q _ => ∃ (a : Addr) (ns : List Int), vs = [.ref a] ∧ SqL K H a (iv ns) ∧ ∀ H', Same H H' → Q (.bl (calmF ns)) H'
theorem cntF_cons (tw lw z : Int) (r : List Int) : cntF tw lw (z :: r) = if z < -1 ∨ 2 < z then false else
    if 1 < (if z < 1 then 0 else if z = 2 then tw + 1 else tw) ∨ 1 < (if 0 < z then 0 else if z = -1 then lw + 1 else lw) then false else cntF (if z < 1 then 0 else if z = 2 then tw + 1 else tw) (if 0 < z then 0 else if z = -1 then lw + 1 else lw) r := rfl
section
variable {P : Program} {w : World} {K : PySem.W.Frag} {mg : Str → Option Value} {base : Heap} {t : Adr}
theorem ok_lcalm (T : Txt K mg t) : FnOk P w K mg base CX0 1 t.a_law_calm t.d_law_calm ["_law_row"] (sp_lcalm K) := by
  refine T.f_law_calm.fn.ok sc_law_calm (fun vs H Q E h => ?_) (fun cdv A outer s H vs Q E hr h => ?_)
  · obtain ⟨a, ns, rfl, _⟩ := h
    rfl
  obtain ⟨a, ns, rfl, hS, q⟩ := h
  refine ⟨_, (pss_cons (ps_set (i := 1) sc_law_calm.nd rfl (Or.inl rfl) pe_int)
    (pss_cons (ps_set (i := 2) sc_law_calm.nd rfl (Or.inl rfl) pe_int)
    (pss_cons (ps_for PassesOwn.never rfl (pi_list (pv 0)) (pg_name (i := 3) sc_law_calm.nd rfl (Or.inl rfl)) (pss_cons (ps_if (PW.pt (pw_or (pt_cmpR op_lt (pv 3) (pe_un un_neg pe_int) (nomark _)) (pw_or1 (pt_cmpR op_gt (pv 3) pe_int (nomark _))))) (pss_one (ps_ret pe_bl)) pss_nil)
    (pss_cons (ps_if (pt_cmpR op_eq (pv 3) pe_int (nomark _)) (pss_one (ps_set (i := 1) sc_law_calm.nd rfl (Or.inl rfl) (pe_op op_add (pv 1) pe_int))) pss_nil)
    (pss_cons (ps_if (pt_cmpR op_lt (pv 3) pe_int (nomark _)) (pss_one (ps_set (i := 1) sc_law_calm.nd rfl (Or.inl rfl) pe_int)) pss_nil)
    (pss_cons (ps_if (pt_cmpR op_eq (pv 3) (pe_un un_neg pe_int) (nomark _)) (pss_one (ps_set (i := 2) sc_law_calm.nd rfl (Or.inl rfl) (pe_op op_add (pv 2) pe_int))) pss_nil)
    (pss_cons (ps_if (pt_cmpR op_gt (pv 3) pe_int (nomark _)) (pss_one (ps_set (i := 2) sc_law_calm.nd rfl (Or.inl rfl) pe_int)) pss_nil)
    (pss_one (ps_if (PW.pt (pw_or (pt_cmpR op_gt (pv 1) pe_int (nomark _)) (pw_or1 (pt_cmpR op_gt (pv 2) pe_int (nomark _))))) (pss_one (ps_ret pe_bl)) pss_nil))))))))
    (pss_one (ps_ret (pe_or (pe_cmpR (op_eqL hr.units) (pv 0) (pe_lst pa_nil) (nomark _)) (pe_one (pe_cmpR op_ne (pe_ix ix_list (pv 0) (pe_un un_neg pe_int) (fun _ _ => rfl)) pe_int (nomark _))))))))), ?_⟩
  rw [calm_cnt] at q
  walk_at "sq"
  refine st_set (v := .int 0) (by walk_at "pu") ?_
  walk_at "sq"
  refine st_set (v := .int 0) (by walk_at "pu") ?_
  walk_at "sq"
  refine st_for (K := K) (a := a) (xs := iv ns) (by walk_at "pu") hS (fun i σ H2 => H2 = H ∧ ∃ tw lw f, σ = [some (.ref a), some (.int tw), some (.int lw), f] ∧ cntF tw lw (ns.drop i) = cntF 0 0 ns)
    ⟨rfl, 0, 0, none, rfl, rfl⟩ (fun i σ H2 _ ⟨e, _⟩ => by rw [e]; exact hS) ?_ ?_
  · rintro i x σ H2 hx ⟨rfl, tw, lw, f, rfl, hb⟩
    obtain ⟨z, hz, rfl⟩ := ints_get hx
    rw [drop_at hz, cntF_cons] at hb
    walk_at "sq"
    refine st_if (b := decide (z < -1) || decide (2 < z)) (by walk_at "pu") (fun c => ?_) (fun c => ?_)
    · have c' : z < -1 ∨ 2 < z := by simpa using c
      rw [if_pos c'] at hb
      rw [← hb] at q
      walk_at "sq"
      exact st_ret (v := .bl false) (by walk_at "pu") (q _ (Same.refl _))
    have c' : ¬ (z < -1 ∨ 2 < z) := by
      intro h
      rcases h with h | h <;> simp [h] at c
    rw [if_neg c'] at hb
    walk_at "sq"
    refine st_ifset (w := tw) (v := tw + 1) (b := decide (z = 2)) (by walk_at "pu") (fun _ => by walk_at "pu") rfl ?_
    walk_at "sq"
    refine st_ifset (w := if decide (z = 2) = true then tw + 1 else tw) (v := 0) (b := decide (z < 1)) (by walk_at "pu") (fun _ => by walk_at "pu") rfl ?_
    walk_at "sq"
    refine st_ifset (w := lw) (v := lw + 1) (b := decide (z = -1)) (by walk_at "pu") (fun _ => by walk_at "pu") rfl ?_
    walk_at "sq"
    refine st_ifset (w := if decide (z = -1) = true then lw + 1 else lw) (v := 0) (b := decide (0 < z)) (by walk_at "pu") (fun _ => by walk_at "pu") rfl ?_
    simp only [decide_eq_true_eq]
    generalize (if z < 1 then 0 else if z = 2 then tw + 1 else tw) = tw2 at *
    generalize (if 0 < z then 0 else if z = -1 then lw + 1 else lw) = lw2 at *
    walk_at "sq"
    refine st_if (b := decide (1 < tw2) || decide (1 < lw2)) (by walk_at "pu") (fun d => ?_) (fun d => ?_)
    · have d' : 1 < tw2 ∨ 1 < lw2 := by simpa using d
      rw [if_pos d'] at hb
      rw [← hb] at q
      walk_at "sq"
      exact st_ret (v := .bl false) (by walk_at "pu") (q _ (Same.refl _))
    · have d' : ¬ (1 < tw2 ∨ 1 < lw2) := by
        intro h
        rcases h with h | h <;> simp [h] at d
      rw [if_neg d'] at hb
      exact ⟨rfl, _, _, _, rfl, hb⟩
  · rintro σ H2 ⟨rfl, tw, lw, f, rfl, hb⟩
    rw [ints_len, List.drop_length] at hb
    have hb' : true = cntF 0 0 ns := hb
    rw [← hb', Bool.true_and] at q
    walk_at "sq"
    refine ⟨_, rfl, Nat.zero_le _, fun e he => ⟨a, e, ns, [], rfl, rfl, (same_new he _).seq hS, SqL.of upd_same, _, rfl, ?_⟩⟩
    have q' := q _ (same_new he (.lst []))
    by_cases c : ns = []
    · refine iteC (decT c) ?_
      rw [c] at q'
      exact q'
    · refine iteD (decF c) ?_
      have hp : (0 : Int) < ((iv ns).length : Nat) := by rw [ints_len]; have := List.length_pos_iff.mpr c; omega
      refine (pu_neI (pu_ix (K := K) (pu_var rfl) (pu_U (g := fun i => .int (-i)) pu_c) ((same_new he _).seq hS) (last_at hp)) pu_c) _ ?_
      rw [end_test, decT hp, Bool.true_and] at q'
      exact q'
end
noncomputable def sp_made (K : PySem.W.Frag) : Sp := fun vs H Q _ => ∃ (a : Addr) (ns : List Int), vs = [.ref a] ∧ SqL K H a (iv ns) ∧ ns.length ≤ 80000 ∧ (∀ x ∈ ns, -1 ≤ x ∧ x ≤ 2) ∧
  ∀ (r : Addr) (fs : List Int) (H' : Hp), H r = none → Same H H' → H' r = some (.lst (iv fs)) → fs.length ≤ ns.length → calmF fs = true → Q (.ref r) H'
section
variable {P : Program} {w : World} {K : PySem.W.Frag} {mg : Str → Option Value} {base : Heap} {t : Adr}
theorem fig_fix {x : Int} {two low : Bool} (h1 : -1 ≤ x) (h2 : x ≤ 2) (y z : Int) (ey : y = if (decide (x = 2) && !two) then 1 else x) (ez : z = if (decide (y = -1) && !low) then 0 else y) : -1 ≤ z ∧ z ≤ 2 ∧ (z = 2 → two = true) ∧ (z = -1 → low = true) := by
  subst ey
  subst ez
  cases two <;> cases low <;> (by_cases a : x = 2 <;> by_cases b : x = -1 <;> simp [a, b] <;> omega)
theorem ok_made (T : Txt K mg t) : FnOk P w K mg base CX0 1 t.a_law_made_calm t.d_law_made_calm ["_law_figures"] (sp_made K) := by
  refine T.f_law_made_calm.fn.ok sc_law_made_calm (fun vs H Q E h => ?_) (fun cdv A outer s H vs Q E hr h => ?_)
  · obtain ⟨a, ns, rfl, _⟩ := h
    rfl
  obtain ⟨a, ns, rfl, hS, hl, hfg, q⟩ := h
  refine ⟨_, (pss_cons (ps_set (i := 1) sc_law_made_calm.nd rfl (Or.inl rfl) (pe_lst pa_nil))
    (pss_cons (ps_set (i := 2) sc_law_made_calm.nd rfl (Or.inl rfl) pe_bl)
    (pss_cons (ps_set (i := 3) sc_law_made_calm.nd rfl (Or.inl rfl) pe_bl)
    (pss_cons (ps_for PassesOwn.never rfl (pi_list (pv 0)) (pg_name (i := 4) sc_law_made_calm.nd rfl (Or.inl rfl)) (pss_cons (ps_if (PW.pt (pw_and (pt_cmpR op_eq (pv 4) pe_int (nomark _)) (pw_and1 (pt_not (pt_val (pv 2)))))) (pss_one (ps_set (i := 4) sc_law_made_calm.nd rfl (Or.inl rfl) pe_int)) pss_nil)
    (pss_cons (ps_if (PW.pt (pw_and (pt_cmpR op_eq (pv 4) (pe_un un_neg pe_int) (nomark _)) (pw_and1 (pt_not (pt_val (pv 3)))))) (pss_one (ps_set (i := 4) sc_law_made_calm.nd rfl (Or.inl rfl) pe_int)) pss_nil)
    (pss_cons (ps_set (i := 2) sc_law_made_calm.nd rfl (Or.inl rfl) (pe_and (pe_cmpR op_ne (pv 4) pe_int (nomark _)) (pe_one (pe_or (pv 2) (pe_one (pe_cmpR op_lt (pv 4) pe_int (nomark _)))))))
    (pss_cons (ps_set (i := 3) sc_law_made_calm.nd rfl (Or.inl rfl) (pe_and (pe_cmpR op_ne (pv 4) (pe_un un_neg pe_int) (nomark _)) (pe_one (pe_or (pv 3) (pe_one (pe_cmpR op_gt (pv 4) pe_int (nomark _)))))))
    (pss_one (ps_expr (pe_bm PySem.F.plainAttrs_list PySem.F.slot_list_append PySem.F.type_list_append mt_append (pv 1) (pa_cons (pv 4) pa_nil)))))))))
    (pss_cons (ps_while PassesOwn.never (PW.pt (pw_and (pt_cmpR (op_neL hr.units) (pv 1) (pe_lst pa_nil) (nomark _)) (pw_and1 (pt_cmpR op_eq (pe_ix ix_list (pv 1) (pe_un un_neg pe_int) (fun _ _ => rfl)) pe_int (nomark _))))) (pss_one (ps_expr (pe_bm0 PySem.F.plainAttrs_list PySem.F.slot_list_pop PySem.F.type_list_pop mt_pop (pv 1)))))
    (pss_one (ps_ret (pv 1)))))))), ?_⟩
  walk_at "sq"
  refine st_new fun r hr0 => ?_
  walk_at "sq"
  refine st_set (v := .bl true) (by walk_at "pu") ?_
  walk_at "sq"
  refine st_set (v := .bl true) (by walk_at "pu") ?_
  walk_at "sq"
  refine st_for (K := K) (a := a) (xs := iv ns) (by walk_at "pu") ((same_new hr0 _).seq hS) (fun i σ H2 => ∃ fs b1 b2 f, σ = [some (.ref a), some (.ref r), some (.bl b1), some (.bl b2), f] ∧ Same H H2 ∧ H2 r = some (.lst (iv fs)) ∧ fs.length = i ∧ MC fs b1 b2)
    ⟨[], true, true, none, rfl, same_new hr0 _, upd_same, rfl, MC.start⟩ (fun i σ H2 _ ⟨_, _, _, _, _, sm, _⟩ => sm.seq hS) ?_ ?_
  · rintro i x σ H2 hx ⟨fs, b1, b2, f, rfl, sm, h1, hf, mc⟩
    obtain ⟨z, hz, rfl⟩ := ints_get hx
    have hi := get_lt hz
    have hzf := hfg z (List.mem_of_getElem? hz)
    walk_at "sq"
    refine st_ifset (w := z) (by walk_at "pu") (fun _ => by walk_at "pu") rfl ?_
    walk_at "sq"
    refine st_ifset (by walk_at "pu") (fun _ => by walk_at "pu") rfl ?_
    obtain ⟨g1, g2, g3, g4⟩ := fig_fix (two := b1) (low := b2) hzf.1 hzf.2 _ _ rfl rfl
    walk_at "sq"
    refine st_set (by walk_at "pu") ?_
    walk_at "sq"
    refine st_set (by walk_at "pu") ?_
    walk_at "sq"
    refine st_append (K := K) (l := r) (by walk_at "pu") (by walk_at "pu") h1 (by rw [ints_len]; omega) ?_
    exact ⟨fs ++ [_], _, _, _, rfl, same_upd hr0 sm _, by rw [upd_same, ← ints_app]; rfl, by rw [List.length_append]; simp [hf], mc.step g1 g2 g3 g4 rfl rfl⟩
  · rintro σ H2 ⟨fs, b1, b2, f, rfl, sm, h1, hf, mc⟩
    rw [ints_len] at hf
    walk_at "sq"
    refine ⟨fun m σ' H3 => ∃ gs f, σ' = [some (.ref a), some (.ref r), some (.bl b1), some (.bl b2), f] ∧ Same H H3 ∧ H3 r = some (.lst (iv gs)) ∧ gs.length = m ∧ m ≤ ns.length ∧ Cm gs, ⟨fs.length, fs, f, rfl, sm, h1, rfl, by omega, mc.cm⟩, ?_⟩
    rintro m σ' H3 ⟨gs, f', rfl, sm3, h3, rfl, hm, cm⟩
    refine ⟨_, rfl, Nat.zero_le _, fun e he => ⟨r, e, gs, [], rfl, rfl, SqL.of (same_new he _ _ _ h3), SqL.of upd_same, _, rfl, ?_⟩⟩
    have sm4 := sm3.trans (same_new he (.lst []))
    have h4 := same_new he (.lst []) _ _ h3
    by_cases c : gs = []
    · refine iteD (by rw [c]; rfl) (iteF ?_)
      walk_at "sq"
      refine st_ret (by walk_at "pu") (q r gs _ hr0 sm4 h4 hm ?_)
      rw [c]; rfl
    · refine iteC (by rw [decF c]; rfl) ?_
      have hp : (0 : Int) < ((iv gs).length : Nat) := by rw [ints_len]; have := List.length_pos_iff.mpr c; omega
      have hv := last_at hp
      refine (pu_test (pu_eqI (pu_ix (K := K) (pu_var rfl) (by walk_at "pu") (SqL.of h4) hv) pu_c)) _ ?_
      obtain ⟨y, hy⟩ : ∃ y, gs.getLast? = some y := by
        cases hgl : gs.getLast? with
        | none => exact absurd (List.getLast?_eq_none_iff.mp hgl) c
        | some y => exact ⟨y, rfl⟩
      rw [hy]
      refine ite2 (fun e2 => ?_) (fun e2 => ?_)
      · have e2' : y = 0 := of_decide_eq_true e2
        have hyl : (iv gs)[(iv gs).length - 1]? = some ((iv gs)[(iv gs).length - 1]'(by rw [ints_len]; have := List.length_pos_iff.mpr c; omega)) := List.getElem?_eq_getElem _
        have hgl := List.length_pos_iff.mpr c
        refine ⟨fun σ2 H5 => ∃ f, σ2 = [some (.ref a), some (.ref r), some (.bl b1), some (.bl b2), f] ∧ Same H H5 ∧ H5 r = some (.lst (iv gs.dropLast)), fun σ2 H5 ⟨f2, e1, e2, e3⟩ => ⟨gs.length - 1, by omega, gs.dropLast, f2, e1, e2, e3, List.length_dropLast, by omega, ?_⟩, ?_⟩
        · have := cm
          rw [← List.dropLast_concat_getLast c] at this
          exact this.front
        · walk_at "sq"
          refine st_pop (K := K) (l := r) (by walk_at "pu") h4 hyl ?_
          exact ⟨_, rfl, same_upd hr0 sm4 _, by rw [upd_same, ints_dropLast]⟩
      · have e2' : y ≠ 0 := fun z => e2 (by rw [z]; rfl)
        walk_at "sq"
        refine st_ret (by walk_at "pu") (q r gs _ hr0 sm4 h4 hm (calm_end cm ?_))
        rw [hy]
        intro z
        injection z with z
        exact e2' z
end
noncomputable def sp_mirror : Sp := fun vs H Q _ => ∃ (f : Int) (u : Bool), vs = [.int f, .bl u] ∧ Q (.int (mrr u f)) H
noncomputable def sp_figureAt (K : PySem.W.Frag) : Sp := fun vs H Q _ => ∃ (a : Addr) (ns : List Int) (p : Nat), vs = [.ref a, .int (p : Nat)] ∧ SqL K H a (iv ns) ∧ Q (.int (fig ns p)) H
noncomputable def sp_seen (K : PySem.W.Frag) : Sp := fun vs H Q _ => ∃ (a : Addr) (ns : List Int) (p : Nat) (u : Bool), vs = [.ref a, .int (p : Nat), .bl u] ∧ SqL K H a (iv ns) ∧ Q (.int (mrr u (fig ns p))) H
noncomputable def sp_firstAbove (K : PySem.W.Frag) : Sp := fun vs H Q _ => ∃ (a : Addr) (ns : List Int) (p : Nat) (u : Bool), vs = [.ref a, .int (p : Nat), .bl u] ∧ SqL K H a (iv ns) ∧ Q (.int (atF (runF u) ns p : Nat)) H
noncomputable def sp_twoBelow (K : PySem.W.Frag) : Sp := fun vs H Q _ => ∃ (a : Addr) (ns : List Int) (p : Nat) (u : Bool), vs = [.ref a, .int (p : Nat), .bl u] ∧ SqL K H a (iv ns) ∧ Q (.bl (decide (belowF (runF u) ns p = 3 * runF u - 1))) H
noncomputable def sp_grown (K : PySem.W.Frag) : Sp := fun vs H Q _ => ∃ (a : Addr) (ns : List Int) (p : Nat) (u : Bool), vs = [.ref a, .int (p : Nat), .bl u] ∧ SqL K H a (iv ns) ∧ ∀ r, H r = none → Q (.ref r) (upd H r (.tup (pr2 (p, mrr u (fig ns p) + 1))))
noncomputable def sp_behind (K : PySem.W.Frag) : Sp := fun vs H Q _ => ∃ (a : Addr) (ns : List Int) (p : Nat) (u : Bool), vs = [.ref a, .int (p : Nat), .bl u] ∧ SqL K H a (iv ns) ∧
  ∀ (r : Addr) (as : List Addr) (H' : Hp), H r = none → Same H H' → H' r = some (.lst (as.map V.ref)) → Paired (fun a t => H' a = some (.tup (pr2 t))) as (behF u ns p) → Q (.ref r) H'
noncomputable def sp_step (K : PySem.W.Frag) : Sp := fun vs H Q _ => ∃ (a : Addr) (ns : List Int) (p : Nat) (u : Bool), vs = [.ref a, .int (p : Nat), .bl u] ∧ SqL K H a (iv ns) ∧ calmF ns = true ∧
  ∀ r H', H r = none → Same H H' → ChL H' r (dueF (if u then 1 else 0) ns p) → Q (.ref r) H'
noncomputable def sp_refPlace : Sp := fun vs H Q _ => ∃ p : Nat, vs = [.int (p : Nat)] ∧ p ≤ 399 ∧ Q .non H
noncomputable def sp_refCalm (K : PySem.W.Frag) : Sp := fun vs H Q _ => ∃ (a : Addr) (ns : List Int), vs = [.ref a] ∧ SqL K H a (iv ns) ∧ ns.length ≤ 90000 ∧ calmF ns = true ∧ ∀ H', Same H H' → Q .non H'
section
variable {P : Program} {w : World} {K : PySem.W.Frag} {mg : Str → Option Value} {base : Heap} {t : Adr}
theorem ok_mirror (T : Txt K mg t) : FnOk P w K mg base CX0 1 t.a_mirror t.d_mirror ["figure", "up"] sp_mirror := by
  refine T.f_mirror.fn.ok sc_mirror (fun vs H Q E h => ?_) (fun cdv A outer s H vs Q E hr h => ?_)
  · obtain ⟨f, u, rfl, _⟩ := h
    rfl
  obtain ⟨f, u, rfl, q⟩ := h
  refine ⟨_, (pss_one (ps_ret (pe_ifExp (pt_val (pv 1)) (pv 0) (pe_op op_sub pe_int (pv 0))))), ?_⟩
  walk_at "sq"
  refine st_ret (v := .int (mrr u f)) (pu_if (b := u) (by walk_at "pu") (fun e => ?_) (fun e => ?_)) q
  · subst e; exact pu_var rfl
  · subst e
    show PuE _ _ _ (.int (1 - f))
    walk_at "pu"
theorem ok_figureAt (T : Txt K mg t) : FnOk P w K mg base CX0 1 t.a_figure_at t.d_figure_at ["row", "place"] (sp_figureAt K) := by
  refine T.f_figure_at.fn.ok sc_figure_at (fun vs H Q E h => ?_) (fun cdv A outer s H vs Q E hr h => ?_)
  · obtain ⟨a, ns, p, rfl, _⟩ := h
    rfl
  obtain ⟨a, ns, p, rfl, hS, q⟩ := h
  refine ⟨_, (pss_one (ps_ret (pe_ifExp (pt_cmpR op_lt (pv 1) (pe_callB call_len_seq rfl T.b_len PySem.boot_len (pa_cons (pv 0) pa_nil)) (nomark _)) (pe_ix ix_list (pv 0) (pv 1) (fun _ _ => rfl)) pe_int))), ?_⟩
  walk_at "sq"
  refine st_ret (v := .int (fig ns p)) (pu_if (b := decide ((p : Int) < (((iv ns).length : Nat) : Int))) (by walk_at "pu") (fun e => ?_) (fun e => ?_)) q
  · have c' : (p : Int) < (((iv ns).length : Nat) : Int) := of_decide_eq_true e
    rw [ints_len] at c'
    have hv := atI_fig (l := ns) (p := p) (by omega)
    walk_at "pu"
  · have c' : ¬ (p : Int) < (((iv ns).length : Nat) : Int) := of_decide_eq_false e
    rw [ints_len] at c'
    rw [fig_beyond (by omega)]
    exact pu_c
theorem ok_seen (T : Txt K mg t) (G_mirror : FnOk P w K mg base CX0 1 t.a_mirror t.d_mirror ["figure", "up"] sp_mirror) (G_figure_at : FnOk P w K mg base CX0 1 t.a_figure_at t.d_figure_at ["row", "place"] (sp_figureAt K)) :
    FnOk P w K mg base CX0 2 t.a_seen t.d_seen ["row", "place", "up"] (sp_seen K) := by
  refine T.f_seen.fn.ok sc_seen (fun vs H Q E h => ?_) (fun cdv A outer s H vs Q E hr h => ?_)
  · obtain ⟨a, ns, p, u, rfl, _⟩ := h
    rfl
  obtain ⟨a, ns, p, u, rfl, hS, q⟩ := h
  refine ⟨_, (pss_one (ps_ret (pe_call G_mirror (hr.mono (by decide)) rfl T.f_mirror.mg T.f_mirror.fn.kp T.f_mirror.bd .nil pass0 (pa_cons (pe_call G_figure_at (hr.mono (by decide)) rfl T.f_figure_at.mg T.f_figure_at.fn.kp T.f_figure_at.bd .nil pass0 (pa_cons (pv 0) (pa_cons (pv 1) pa_nil))) (pa_cons (pv 2) pa_nil))))), ?_⟩
  walk_at "sq"
  exact st_ret (pu_call (pu_cons (pu_call (pu_cons (pu_var rfl) (pu_cons (pu_var rfl) pu_nil)) (fun Q q => ⟨a, ns, p, rfl, hS, q⟩)) (pu_cons (pu_var rfl) pu_nil)) (fun Q q => ⟨fig ns p, u, rfl, q⟩)) q
noncomputable abbrev Seen (P : Program) (w : World) (K : PySem.W.Frag) (mg : Str → Option Value) (base : Heap) (t : Adr) : Prop := FnOk P w K mg base CX0 2 t.a_seen t.d_seen ["row", "place", "up"] (sp_seen K)
theorem ok_firstAbove (T : Txt K mg t) (G_seen : Seen P w K mg base t) : FnOk P w K mg base CX0 3 t.a_first_above t.d_first_above ["row", "place", "up"] (sp_firstAbove K) := by
  refine T.f_first_above.fn.ok sc_first_above (fun vs H Q E h => ?_) (fun cdv A outer s H vs Q E hr h => ?_)
  · obtain ⟨a, ns, p, u, rfl, _⟩ := h
    rfl
  obtain ⟨a, ns, p, u, rfl, hS, q⟩ := h
  refine ⟨_, (pss_cons (ps_set (i := 3) sc_first_above.nd rfl (Or.inl rfl) (pe_op op_add (pv 1) pe_int))
    (pss_cons (ps_while PassesOwn.never (PW.pt (pw_and (pt_cmpR op_lt (pv 3) (pe_callB call_len_seq rfl T.b_len PySem.boot_len (pa_cons (pv 0) pa_nil)) (nomark _)) (pw_and1 (pt_cmpR op_eq (pe_call G_seen (hr.mono (by decide)) rfl T.f_seen.mg T.f_seen.fn.kp T.f_seen.bd .nil pass0 (pa_cons (pv 0) (pa_cons (pv 3) (pa_cons (pv 2) pa_nil)))) pe_int (nomark _))))) (pss_one (ps_set (i := 3) sc_first_above.nd rfl (Or.inl rfl) (pe_op op_add (pv 3) pe_int))))
    (pss_one (ps_ret (pv 3))))), ?_⟩
  walk_at "sq"
  refine st_set (v := .int ((p : Int) + 1)) (by walk_at "pu") ?_
  walk_at "sq"
  refine st_while (fun m σ H2 => H2 = H ∧ ∃ i : Nat, m = ns.length - (p + 1 + i) ∧ σ = [some (.ref a), some (.int p), some (.bl u), some (.int ((p + 1 + i : Nat) : Int))] ∧ atF (runF u) ns p = p + 1 + i + upIx (runF u) (ns.drop (p + 1 + i)))
    ⟨_, rfl, 0, rfl, rfl, rfl⟩ ?_
  rintro m σ H2 ⟨rfl, i, rfl, rfl, hi⟩
  have hlt : (((p + 1 + i : Nat) : Int) < (((iv ns).length : Nat) : Int)) ↔ p + 1 + i < ns.length := by rw [ints_len]; omega
  refine ⟨_, pt_and' (a := decide (((p + 1 + i : Nat) : Int) < (((iv ns).length : Nat) : Int))) (by walk_at "pu") (fun _ => pu_test (pu_eqI (j := 1) (pu_call (pu_cons (pu_var rfl) (pu_cons (pu_var rfl) (pu_cons (pu_var rfl) pu_nil))) (fun Q q => ⟨a, ns, p + 1 + i, u, rfl, hS, q⟩)) pu_c)), fun e => ?_, fun e => ?_⟩
  · rw [Bool.and_eq_true, decide_eq_true_eq, decide_eq_true_eq, hlt, mrr_one] at e
    refine ⟨fun σ' H' => H' = H2 ∧ ∃ i' : Nat, i' = i + 1 ∧ σ' = [some (.ref a), some (.int p), some (.bl u), some (.int ((p + 1 + i' : Nat) : Int))] ∧ atF (runF u) ns p = p + 1 + i' + upIx (runF u) (ns.drop (p + 1 + i')), ?_, ?_⟩
    · rintro σ' H' ⟨rfl, i', rfl, rfl, h2⟩
      exact ⟨_, by omega, rfl, i + 1, rfl, rfl, h2⟩
    · walk_at "sq"
      refine st_set (v := .int (((p + 1 + i : Nat) : Int) + 1)) (by walk_at "pu") ?_
      have hz : ns[p + 1 + i]? = some (fig ns (p + 1 + i)) := get_fig e.1
      rw [drop_at hz, upIx_eq e.2] at hi
      refine ⟨rfl, i + 1, rfl, rfl, ?_⟩
      rw [hi]
      have e4 : p + 1 + i + 1 = p + 1 + (i + 1) := by omega
      rw [e4]; omega
  · walk_at "sq"
    refine st_ret (v := .int ((p + 1 + i : Nat) : Int)) (by walk_at "pu") ?_
    have ea : atF (runF u) ns p = p + 1 + i := by
      by_cases c : p + 1 + i < ns.length
      · have hz : ns[p + 1 + i]? = some (fig ns (p + 1 + i)) := get_fig c
        have ne : ¬ fig ns (p + 1 + i) = runF u := fun z => by
          rw [decide_eq_true (hlt.mpr c), decide_eq_true ((mrr_one u _).mpr z)] at e
          cases e
        rw [drop_at hz, upIx_ne ne] at hi
        exact hi
      · rw [List.drop_eq_nil_of_le (by omega)] at hi
        exact hi
    rw [ea] at q
    exact q
theorem ok_twoBelow (T : Txt K mg t) (G_seen : Seen P w K mg base t) : FnOk P w K mg base CX0 3 t.a_finds_two_below t.d_finds_two_below ["row", "place", "up"] (sp_twoBelow K) := by
  refine T.f_finds_two_below.fn.ok sc_finds_two_below (fun vs H Q E h => ?_) (fun cdv A outer s H vs Q E hr h => ?_)
  · obtain ⟨a, ns, p, u, rfl, _⟩ := h
    rfl
  obtain ⟨a, ns, p, u, rfl, hS, q⟩ := h
  refine ⟨_, (pss_cons (ps_set (i := 3) sc_finds_two_below.nd rfl (Or.inl rfl) (pe_op op_sub (pv 1) pe_int))
    (pss_cons (ps_while PassesOwn.never (PW.pt (pw_and (pt_cmpR op_ge (pv 3) pe_int (nomark _)) (pw_and1 (pt_cmpR op_eq (pe_call G_seen (hr.mono (by decide)) rfl T.f_seen.mg T.f_seen.fn.kp T.f_seen.bd .nil pass0 (pa_cons (pv 0) (pa_cons (pv 3) (pa_cons (pv 2) pa_nil)))) pe_int (nomark _))))) (pss_one (ps_set (i := 3) sc_finds_two_below.nd rfl (Or.inl rfl) (pe_op op_sub (pv 3) pe_int))))
    (pss_one (ps_ret (pe_and (pe_cmpR op_ge (pv 3) pe_int (nomark _)) (pe_one (pe_cmpR op_eq (pe_call G_seen (hr.mono (by decide)) rfl T.f_seen.mg T.f_seen.fn.kp T.f_seen.bd .nil pass0 (pa_cons (pv 0) (pa_cons (pv 3) (pa_cons (pv 2) pa_nil)))) pe_int (nomark _)))))))), ?_⟩
  walk_at "sq"
  refine st_set (v := .int ((p : Int) - 1)) (by walk_at "pu") ?_
  walk_at "sq"
  refine st_while (fun m σ H2 => H2 = H ∧ σ = [some (.ref a), some (.int p), some (.bl u), some (.int ((m : Int) - 1))] ∧ belowF (runF u) ns m = belowF (runF u) ns p)
    ⟨p, rfl, rfl, rfl⟩ ?_
  rintro m σ H2 ⟨rfl, rfl, hm⟩
  refine ⟨_, pt_and' (a := decide ((0 : Int) ≤ (m : Int) - 1)) (b := decide (mrr u (fig ns (m - 1)) = 1)) (by walk_at "pu") (fun e => pu_test (pu_eqI (j := 1) (pu_call (pu_cons (pu_var rfl) (pu_cons (pu_var rfl) (pu_cons (pu_var rfl) pu_nil))) (fun Q q => ⟨a, ns, m - 1, u, by
      have := of_decide_eq_true e
      have e2 : (m : Int) - 1 = ((m - 1 : Nat) : Int) := by omega
      rw [e2]; rfl, hS, q⟩)) pu_c)), fun e => ?_, fun e => ?_⟩
  · rw [Bool.and_eq_true, decide_eq_true_eq, decide_eq_true_eq, mrr_one] at e
    obtain ⟨m', rfl⟩ : ∃ m', m = m' + 1 := ⟨m - 1, by omega⟩
    refine ⟨fun σ' H' => H' = H2 ∧ σ' = [some (.ref a), some (.int p), some (.bl u), some (.int ((m' : Int) - 1))], ?_, ?_⟩
    · rintro σ' H' ⟨rfl, rfl⟩
      refine ⟨m', by omega, rfl, rfl, ?_⟩
      rw [← hm]
      show _ = if fig ns m' = runF u then belowF (runF u) ns m' else fig ns m'
      rw [if_pos (show fig ns m' = runF u from e.2)]
    · walk_at "sq"
      refine st_set (v := .int (((m' + 1 : Nat) : Int) - 1 - 1)) (by walk_at "pu") ⟨rfl, ?_⟩
      have e3 : ((m' + 1 : Nat) : Int) - 1 - 1 = (m' : Int) - 1 := by omega
      rw [e3]; rfl
  · walk_at "sq"
    refine st_ret (v := .bl (decide (belowF (runF u) ns p = 3 * runF u - 1))) ?_ q
    have hb : decide (belowF (runF u) ns p = 3 * runF u - 1) = (decide ((0 : Int) ≤ (m : Int) - 1) && decide (mrr u (fig ns (m - 1)) = 2)) := by
      rw [← hm]
      cases m with
      | zero =>
        show decide (runF u = 3 * runF u - 1) = _
        cases u <;> rfl
      | succ m' =>
        have e0 : decide ((0 : Int) ≤ ((m' + 1 : Nat) : Int) - 1) = true := decide_eq_true (by omega)
        rw [e0, Bool.true_and] at e ⊢
        have e1 : ¬ fig ns m' = runF u := fun z => of_decide_eq_false e ((mrr_one u _).mpr z)
        show decide ((if fig ns m' = runF u then belowF (runF u) ns m' else fig ns m') = 3 * runF u - 1) = decide (mrr u (fig ns m') = 2)
        rw [if_neg e1]
        exact decide_eq_decide.mpr (mrr_two u _).symm
    rw [hb]
    exact pu_and (a := decide ((0 : Int) ≤ (m : Int) - 1)) (by walk_at "pu") (fun e => pu_eqI (j := 2) (pu_call (pu_cons (pu_var rfl) (pu_cons (pu_var rfl) (pu_cons (pu_var rfl) pu_nil))) (fun Q q => ⟨a, ns, m - 1, u, by
      have := of_decide_eq_true e
      have e2 : (m : Int) - 1 = ((m - 1 : Nat) : Int) := by omega
      rw [e2]; rfl, hS, q⟩)) pu_c)
theorem ok_grown (T : Txt K mg t) (G_seen : Seen P w K mg base t) : FnOk P w K mg base CX0 3 t.a_grown t.d_grown ["row", "place", "up"] (sp_grown K) := by
  refine T.f_grown.fn.ok sc_grown (fun vs H Q E h => ?_) (fun cdv A outer s H vs Q E hr h => ?_)
  · obtain ⟨a, ns, p, u, rfl, _⟩ := h
    rfl
  obtain ⟨a, ns, p, u, rfl, hS, q⟩ := h
  refine ⟨_, (pss_one (ps_ret (pe_tup (pa_cons (pv 1) (pa_cons (pe_op op_add (pe_call G_seen (hr.mono (by decide)) rfl T.f_seen.mg T.f_seen.fn.kp T.f_seen.bd .nil pass0 (pa_cons (pv 0) (pa_cons (pv 1) (pa_cons (pv 2) pa_nil)))) pe_int) pa_nil))))), ?_⟩
  exact ⟨_, rfl, _, rfl, _, rfl, _, rfl, a, ns, p, u, rfl, hS, _, _, rfl, rfl, small (by show 2 ≤ 1000; decide), q⟩
theorem ok_behind (T : Txt K mg t) (G_seen : Seen P w K mg base t) (G_first_above : FnOk P w K mg base CX0 3 t.a_first_above t.d_first_above ["row", "place", "up"] (sp_firstAbove K)) (G_finds_two_below : FnOk P w K mg base CX0 3 t.a_finds_two_below t.d_finds_two_below ["row", "place", "up"] (sp_twoBelow K))
    (G_grown : FnOk P w K mg base CX0 3 t.a_grown t.d_grown ["row", "place", "up"] (sp_grown K)) : FnOk P w K mg base CX0 4 t.a_figures_behind t.d_figures_behind ["row", "place", "up"] (sp_behind K) := by
  refine T.f_figures_behind.fn.ok sc_figures_behind (fun vs H Q E h => ?_) (fun cdv A outer s H vs Q E hr h => ?_)
  · obtain ⟨a, ns, p, u, rfl, _⟩ := h
    rfl
  obtain ⟨a, ns, p, u, rfl, hS, q⟩ := h
  refine ⟨_, (pss_cons (ps_set (i := 3) sc_figures_behind.nd rfl (Or.inl rfl) (pe_call G_seen (hr.mono (by decide)) rfl T.f_seen.mg T.f_seen.fn.kp T.f_seen.bd .nil pass0 (pa_cons (pv 0) (pa_cons (pv 1) (pa_cons (pv 2) pa_nil)))))
    (pss_cons (ps_if (pt_cmpR op_eq (pv 3) pe_int (nomark _)) (pss_one (ps_ret (pe_lst (pa_cons (pe_tup (pa_cons (pv 1) (pa_cons pe_int pa_nil))) (pa_cons (pe_call G_grown (hr.mono (by decide)) rfl T.f_grown.mg T.f_grown.fn.kp T.f_grown.bd .nil pass0 (pa_cons (pv 0) (pa_cons (pe_op op_add (pv 1) pe_int) (pa_cons (pv 2) pa_nil)))) pa_nil))))) pss_nil)
    (pss_cons (ps_if (pt_cmpR op_eq (pv 3) (pe_un un_neg pe_int) (nomark _)) (pss_one (ps_ret (pe_lst (pa_cons (pe_tup (pa_cons (pv 1) (pa_cons pe_int pa_nil))) pa_nil)))) pss_nil)
    (pss_cons (ps_if (PW.pt (pw_and (pt_cmpR op_eq (pv 3) pe_int (nomark _)) (pw_and1 (pt_val (pe_call G_finds_two_below (hr.mono (by decide)) rfl T.f_finds_two_below.mg T.f_finds_two_below.fn.kp T.f_finds_two_below.bd .nil pass0 (pa_cons (pv 0) (pa_cons (pv 1) (pa_cons (pv 2) pa_nil)))))))) (pss_one (ps_ret (pe_lst (pa_cons (pe_tup (pa_cons (pv 1) (pa_cons pe_int pa_nil))) (pa_cons (pe_call G_grown (hr.mono (by decide)) rfl T.f_grown.mg T.f_grown.fn.kp T.f_grown.bd .nil pass0 (pa_cons (pv 0) (pa_cons (pe_op op_add (pv 1) pe_int) (pa_cons (pv 2) pa_nil)))) pa_nil))))) pss_nil)
    (pss_cons (ps_set (i := 4) sc_figures_behind.nd rfl (Or.inl rfl) (pe_call G_first_above (hr.mono (by decide)) rfl T.f_first_above.mg T.f_first_above.fn.kp T.f_first_above.bd .nil pass0 (pa_cons (pv 0) (pa_cons (pv 1) (pa_cons (pv 2) pa_nil)))))
    (pss_cons (ps_if (pt_cmpR op_eq (pe_call G_seen (hr.mono (by decide)) rfl T.f_seen.mg T.f_seen.fn.kp T.f_seen.bd .nil pass0 (pa_cons (pv 0) (pa_cons (pv 4) (pa_cons (pv 2) pa_nil)))) pe_int (nomark _)) (pss_one (ps_ret (pe_lst (pa_cons (pe_tup (pa_cons (pv 1) (pa_cons (pe_op op_add (pv 3) pe_int) pa_nil))) (pa_cons (pe_tup (pa_cons (pv 4) (pa_cons pe_int pa_nil))) (pa_cons (pe_call G_grown (hr.mono (by decide)) rfl T.f_grown.mg T.f_grown.fn.kp T.f_grown.bd .nil pass0 (pa_cons (pv 0) (pa_cons (pe_op op_add (pv 4) pe_int) (pa_cons (pv 2) pa_nil)))) pa_nil)))))) pss_nil)
    (pss_one (ps_ret (pe_lst (pa_cons (pe_tup (pa_cons (pv 1) (pa_cons (pe_op op_add (pv 3) pe_int) pa_nil))) pa_nil)))))))))), ?_⟩
  have ebh : behF u ns p = if mrr u (fig ns p) = 2 then [(p, 1), (p + 1, mrr u (fig ns (p + 1)) + 1)]
      else if mrr u (fig ns p) = -1 then [(p, 0)]
      else if mrr u (fig ns p) = 1 ∧ belowF (runF u) ns p = 3 * runF u - 1 then [(p, 0), (p + 1, mrr u (fig ns (p + 1)) + 1)]
      else if mrr u (fig ns (atF (runF u) ns p)) = 2 then [(p, mrr u (fig ns p) + 1), (atF (runF u) ns p, 0), (atF (runF u) ns p + 1, mrr u (fig ns (atF (runF u) ns p + 1)) + 1)]
      else [(p, mrr u (fig ns p) + 1)] := rfl
  rw [ebh] at q
  clear ebh
  walk_at "sq"
  refine st_set (v := .int (mrr u (fig ns p))) (pu_call (pu_cons (pu_var rfl) (pu_cons (pu_var rfl) (pu_cons (pu_var rfl) pu_nil))) (fun Q q => ⟨a, ns, p, u, rfl, hS, q⟩)) ?_
  walk_at "sq"
  refine st_if (b := decide (mrr u (fig ns p) = 2)) (by walk_at "pu") (fun c => ?_) (fun c => ?_)
  · rw [if_pos (of_decide_eq_true c)] at q
    walk_at "sq"
    refine st_prret (pra_cons (fun _ _ => by walk_at "pu") rfl (pra_tup (t := (p + 1, mrr u (fig ns (p + 1)) + 1)) (fun H0 s Q q => ⟨_, rfl, _, rfl, _, _, rfl, rfl, _, rfl, a, ns, p + 1, u, rfl, s.seq hS, q⟩) pra_nil)) (by show 2 ≤ 1000; decide) q
  rw [if_neg (of_decide_eq_false c)] at q
  walk_at "sq"
  refine st_if (b := decide (mrr u (fig ns p) = -1)) (by walk_at "pu") (fun c => ?_) (fun c => ?_)
  · rw [if_pos (of_decide_eq_true c)] at q
    walk_at "sq"
    exact st_prret (pra_cons (fun _ _ => by walk_at "pu") rfl pra_nil) (by show 1 ≤ 1000; decide) q
  rw [if_neg (of_decide_eq_false c)] at q
  walk_at "sq"
  refine st_if (b := decide (mrr u (fig ns p) = 1) && decide (belowF (runF u) ns p = 3 * runF u - 1)) (pt_and' (by walk_at "pu") (fun _ => pu_tB (pu_call (pu_cons (pu_var rfl) (pu_cons (pu_var rfl) (pu_cons (pu_var rfl) pu_nil))) (fun Q q => ⟨a, ns, p, u, rfl, hS, q⟩)))) (fun c => ?_) (fun c => ?_)
  · rw [Bool.and_eq_true, decide_eq_true_eq, decide_eq_true_eq] at c
    rw [if_pos c] at q
    walk_at "sq"
    refine st_prret (pra_cons (fun _ _ => by walk_at "pu") rfl (pra_tup (t := (p + 1, mrr u (fig ns (p + 1)) + 1)) (fun H0 s Q q => ⟨_, rfl, _, rfl, _, _, rfl, rfl, _, rfl, a, ns, p + 1, u, rfl, s.seq hS, q⟩) pra_nil)) (by show 2 ≤ 1000; decide) q
  have c' : ¬ (mrr u (fig ns p) = 1 ∧ belowF (runF u) ns p = 3 * runF u - 1) := fun z => by
    rw [decide_eq_true z.1, decide_eq_true z.2] at c
    cases c
  rw [if_neg c'] at q
  clear c c'
  walk_at "sq"
  refine st_set (v := .int (atF (runF u) ns p : Nat)) (pu_call (pu_cons (pu_var rfl) (pu_cons (pu_var rfl) (pu_cons (pu_var rfl) pu_nil))) (fun Q q => ⟨a, ns, p, u, rfl, hS, q⟩)) ?_
  generalize atF (runF u) ns p = k at *
  walk_at "sq"
  refine st_if (b := decide (mrr u (fig ns k) = 2)) (pu_test (pu_eqI (j := 2) (pu_call (pu_cons (pu_var rfl) (pu_cons (pu_var rfl) (pu_cons (pu_var rfl) pu_nil))) (fun Q q => ⟨a, ns, k, u, rfl, hS, q⟩)) pu_c)) (fun c => ?_) (fun c => ?_)
  · rw [if_pos (of_decide_eq_true c)] at q
    walk_at "sq"
    exact st_prret (pra_cons (fun _ _ => by walk_at "pu") rfl (pra_cons (fun _ _ => by walk_at "pu") rfl (pra_tup (t := (k + 1, mrr u (fig ns (k + 1)) + 1)) (fun H0 s Q q => ⟨_, rfl, _, rfl, _, _, rfl, rfl, _, rfl, a, ns, k + 1, u, rfl, s.seq hS, q⟩) pra_nil))) (by show 3 ≤ 1000; decide) q
  · rw [if_neg (of_decide_eq_false c)] at q
    walk_at "sq"
    exact st_prret (pra_cons (fun _ _ => by walk_at "pu") rfl pra_nil) (by show 1 ≤ 1000; decide) q
theorem ok_step (T : Txt K mg t) (G_mirror : FnOk P w K mg base CX0 1 t.a_mirror t.d_mirror ["figure", "up"] sp_mirror) (G_figure_at : FnOk P w K mg base CX0 1 t.a_figure_at t.d_figure_at ["row", "place"] (sp_figureAt K))
    (G_figures_behind : FnOk P w K mg base CX0 4 t.a_figures_behind t.d_figures_behind ["row", "place", "up"] (sp_behind K)) : FnOk P w K mg base CX0 5 t.a_step t.d_step ["row", "place", "up"] (sp_step K) := by
  refine T.f_step.fn.ok sc_step (fun vs H Q E h => ?_) (fun cdv A outer s H vs Q E hr h => ?_)
  · obtain ⟨a, ns, p, u, rfl, _⟩ := h
    rfl
  obtain ⟨a, ns, p, u, rfl, hS, hcalm, q⟩ := h
  refine ⟨_, (pss_one (ps_ret (pe_compF (Nt := ["at", "behind"]) ["row", "up"] [0, 2] rfl rfl (by decide +kernel) (by decide +kernel) rfl (by decide +kernel) rfl (pi_list (pe_call G_figures_behind (hr.mono (by decide)) rfl T.f_figures_behind.mg T.f_figures_behind.fn.kp T.f_figures_behind.bd .nil pass0 (pa_cons (pe_var (i := 0) rfl (.inr (.inl rfl))) (pa_cons (pv 1) (pa_cons (pe_var (i := 2) rfl (.inr (.inl rfl))) pa_nil))))) (fun _ _ _ _ _ => (pg_tupK (K := K) (n := 2) rfl rfl (pgs_cons (pg_name (i := 0) (show List.Nodup ((["at", "behind"] : List Str) ++ (["row", "up"] : List Str) : List Str) by decide +kernel) rfl (Or.inl rfl)) (pgs_cons (pg_name (i := 1) (show List.Nodup ((["at", "behind"] : List Str) ++ (["row", "up"] : List Str) : List Str) by decide +kernel) rfl (Or.inl rfl)) pgs_nil)))) (fun _ _ _ _ _ => (pe_tup (pa_cons (pv 0) (pa_cons (pe_call G_figure_at (hr.mono (by decide)) rfl T.f_figure_at.mg T.f_figure_at.fn.kp T.f_figure_at.bd .nil pass0 (pa_cons (pe_var (i := 2) rfl (.inr (.inl rfl))) (pa_cons (pv 0) pa_nil))) (pa_cons (pe_call G_mirror (hr.mono (by decide)) rfl T.f_mirror.mg T.f_mirror.fn.kp T.f_mirror.bd .nil pass0 (pa_cons (pv 1) (pa_cons (pe_var (i := 3) rfl (.inr (.inl rfl))) pa_nil))) pa_nil)))))))), ?_⟩
  rw [← step_due u (fg_lo (calm_cm hcalm).1 p)] at q
  refine ⟨_, rfl, _, rfl, _, rfl, a, ns, p, u, rfl, hS, fun r0 as H1 nr0 s1 hr0 hpr => ⟨r0, rfl, ⟨_, SqL.of hr0⟩, fun acc hacc => ?_⟩⟩
  unfold stepC at q
  have hb3 := beh_small u ns p
  generalize behF u ns p = bs at *
  refine comp_listF (K := K) (a := r0) (xs := as.map V.ref) (fun i H2 => Same H1 H2 ∧ ∃ cs, H2 acc = some (.lst (cs.map V.ref)) ∧ TupsAt H2 cs ((bs.take i).map fun t => (t.1, fig ns t.1, mrr u t.2))) ⟨same_new hacc _, [], upd_same, .nil⟩ (fun i H2 _ h => SqL.of (h.1 _ _ hr0)) ?_ ?_
  · rintro i x H2 hx ⟨sm, cs, h2, ht⟩
    rw [List.getElem?_map] at hx
    obtain ⟨b, hb, rfl⟩ := Option.map_eq_some_iff.mp hx
    obtain ⟨t', ht', hta⟩ := Paired.at hpr hb
    have hlen : cs.length ≤ 3 := by
      have := Paired.len ht
      rw [List.length_map, List.length_take] at this
      omega
    refine ⟨b, _, rfl, SqT.of (sm _ _ hta), rfl, ?_⟩
    refine ⟨_, _, rfl, _, _, rfl, rfl, _, rfl, _, rfl, _, rfl, a, ns, t'.1, rfl, (s1.trans sm).seq hS, _, rfl, _, rfl, t'.2, u, rfl, small (by show 3 ≤ 1000; decide), fun y ny => ?_⟩
    have sy := same_new ny (.tup [V.int (t'.1 : Int), V.int (fig ns t'.1), V.int (mrr u t'.2)])
    have h3 := sy _ _ h2
    refine ⟨_, h3, bigL (by rw [List.length_map]; omega), same_upd hacc (sm.trans sy) _, cs ++ [y], by rw [upd_same, List.map_append]; rfl, ?_⟩
    rw [take_at ht', List.map_append]
    refine TupsAt.upd (L2.Paired.snoc (TupsAt.same ht sy) ?_) h3
    exact upd_same
  · rintro H2 ⟨sm, cs, h2, ht⟩
    have hl : (as.map V.ref).length = bs.length := by rw [List.length_map, Paired.len hpr]
    rw [hl, List.take_length] at ht
    exact q acc H2 (s1.free hacc) (s1.trans sm) ⟨cs, h2, ht⟩
theorem ok_refPlace (T : Txt K mg t) (G_is_whole : FnOk P w K mg base CX0 1 t.a_is_whole t.d_is_whole ["value"] sp_whole) : FnOk P w K mg base CX0 2 t.a_refuse_if_no_place t.d_refuse_if_no_place ["place"] sp_refPlace := by
  refine T.f_refuse_if_no_place.fn.ok sc_refuse_if_no_place (fun vs H Q E h => ?_) (fun cdv A outer s H vs Q E hr h => ?_)
  · obtain ⟨p, rfl, _⟩ := h
    rfl
  obtain ⟨p, rfl, hp, q⟩ := h
  refine ⟨_, (pss_one (ps_if (PW.pt (pw_or (pt_not (pt_val (pe_call G_is_whole (hr.mono (by decide)) rfl T.f_is_whole.mg T.f_is_whole.fn.kp T.f_is_whole.bd .nil pass0 (pa_cons (pv 0) pa_nil)))) (pw_or (pt_cmpR op_lt (pv 0) pe_int (nomark _)) (pw_or1 (pt_cmpR op_gt (pv 0) (pe_globE rfl T.g_LAST_PLACE) (nomark _)))))) (pss_one ps_never) pss_nil)), ?_⟩
  walk_at "sq"
  refine st_if (b := !true || (decide ((p : Int) < 0) || decide ((399 : Int) < (p : Int)))) (pt_or' (pt_not' (pu_tB (pu_call (sp := sp_whole) (pu_cons (pu_var rfl) pu_nil) (fun Q q => ⟨p, rfl, q⟩)))) fun _ => by walk_at "pu") (fun e => ?_) (fun _ => q)
  rw [decide_eq_false (by omega), decide_eq_false (by omega)] at e
  cases e
theorem ok_refCalm (T : Txt K mg t) (G_is_calm : FnOk P w K mg base CX0 3 t.a_is_calm t.d_is_calm ["row"] (sp_iscalm K)) : FnOk P w K mg base CX0 4 t.a_refuse_if_not_calm t.d_refuse_if_not_calm ["row"] (sp_refCalm K) := by
  refine T.f_refuse_if_not_calm.fn.ok sc_refuse_if_not_calm (fun vs H Q E h => ?_) (fun cdv A outer s H vs Q E hr h => ?_)
  · obtain ⟨a, ns, rfl, _⟩ := h
    rfl
  obtain ⟨a, ns, rfl, hS, hl, hc, q⟩ := h
  refine ⟨_, (pss_one (ps_if (pt_not (pt_val (pe_call G_is_calm (hr.mono (by decide)) rfl T.f_is_calm.mg T.f_is_calm.fn.kp T.f_is_calm.bd .nil pass0 (pa_cons (pv 0) pa_nil)))) (pss_one ps_never) pss_nil)), ?_⟩
  walk_at "sq"
  refine ⟨_, rfl, a, ns, rfl, hS, hl, fun H1 s1 => ⟨_, rfl, iteD (by rw [hc]; rfl) ?_⟩⟩
  exact q H1 s1
theorem all_step (T : Txt K mg t) : FnOk P w K mg base CX0 5 t.a_step t.d_step ["row", "place", "up"] (sp_step K) := by
  have G1 := ok_mirror (P := P) (w := w) (base := base) T
  have G2 := ok_figureAt (P := P) (w := w) (base := base) T
  have G3 := ok_seen (P := P) (w := w) (base := base) T G1 G2
  exact ok_step T G1 G2 (ok_behind T G3 (ok_firstAbove T G3) (ok_twoBelow T G3) (ok_grown T G3))
end
noncomputable def sp_changes (K : PySem.W.Frag) : Sp := fun vs H Q _ => ∃ (a : Addr) (ns : List Int) (p : Nat) (u : Bool), vs = [.ref a, .int (p : Nat), .bl u] ∧ SqL K H a (iv ns) ∧ ns.length ≤ 90000 ∧ calmF ns = true ∧ p ≤ 399 ∧
  ∀ r H', H r = none → Same H H' → ChL H' r (dueF (if u then 1 else 0) ns p) → Q (.ref r) H'
section
variable {P : Program} {w : World} {K : PySem.W.Frag} {mg : Str → Option Value} {base : Heap} {t : Adr}
theorem ok_changes (T : Txt K mg t) (G_refuse_if_no_place : FnOk P w K mg base CX0 2 t.a_refuse_if_no_place t.d_refuse_if_no_place ["place"] sp_refPlace) (G_refuse_if_not_calm : FnOk P w K mg base CX0 4 t.a_refuse_if_not_calm t.d_refuse_if_not_calm ["row"] (sp_refCalm K))
    (G_step : FnOk P w K mg base CX0 5 t.a_step t.d_step ["row", "place", "up"] (sp_step K)) : FnOk P w K mg base CX0 6 t.a_changes t.d_changes ["row", "place", "up"] (sp_changes K) := by
  refine T.f_changes.fn.ok sc_changes (fun vs H Q E h => ?_) (fun cdv A outer s H vs Q E hr h => ?_)
  · obtain ⟨a, ns, p, u, rfl, _⟩ := h
    rfl
  obtain ⟨a, ns, p, u, rfl, hS, hl, hc, hp, q⟩ := h
  refine ⟨_, (pss_cons (ps_expr (pe_call G_refuse_if_no_place (hr.mono (by decide)) rfl T.f_refuse_if_no_place.mg T.f_refuse_if_no_place.fn.kp T.f_refuse_if_no_place.bd .nil pass0 (pa_cons (pv 1) pa_nil)))
    (pss_cons (ps_expr (pe_call G_refuse_if_not_calm (hr.mono (by decide)) rfl T.f_refuse_if_not_calm.mg T.f_refuse_if_not_calm.fn.kp T.f_refuse_if_not_calm.bd .nil pass0 (pa_cons (pv 0) pa_nil)))
    (pss_one (ps_ret (pe_call G_step (hr.mono (by decide)) rfl T.f_step.mg T.f_step.fn.kp T.f_step.bd .nil pass0 (pa_cons (pv 0) (pa_cons (pv 1) (pa_cons (pv 2) pa_nil)))))))), ?_⟩
  walk_at "sq"
  refine st_drop (pu_call (sp := sp_refPlace) (pu_cons (pu_var rfl) pu_nil) (fun Q q => ⟨p, rfl, hp, q⟩)) ?_
  walk_at "sq"
  refine ⟨_, rfl, a, ns, rfl, hS, hl, hc, fun H1 s1 => ?_⟩
  walk_at "sq"
  refine ⟨_, rfl, _, rfl, _, rfl, a, ns, p, u, rfl, s1.seq hS, hc, fun r H' nr s' hr' => q r H' (s1.free nr) (s1.trans s') hr'⟩
theorem all_changes (T : Txt K mg t) : FnOk P w K mg base CX0 6 t.a_changes t.d_changes ["row", "place", "up"] (sp_changes K) := ok_changes T (ok_refPlace T (ok_iswhole T)) (ok_refCalm T (all_calm T)) (all_step T)
end
noncomputable def sp_put (K : PySem.W.Frag) : Sp := fun vs H Q _ => ∃ (a b : Addr) (ns : List Int) (c : List Ch), vs = [.ref a, .ref b] ∧ SqL K H a (iv ns) ∧ ChL H b c ∧ ns.length ≤ 6000 ∧ (∀ t ∈ c, t.1 < 6000) ∧
  ∀ (r : Addr) (H' : Hp), H r = none → Same H H' → H' r = some (.lst (iv (putF ns c))) → Q (.ref r) H'
section
variable {P : Program} {w : World} {K : PySem.W.Frag} {mg : Str → Option Value} {base : Heap} {t : Adr}
theorem ok_put (T : Txt K mg t) : FnOk P w K mg base CX0 1 t.a_put t.d_put ["row", "some"] (sp_put K) := by
  refine T.f_put.fn.ok sc_put (fun vs H Q E h => ?_) (fun cdv A outer s H vs Q E hr h => ?_)
  · obtain ⟨a, b, ns, c, rfl, _⟩ := h
    rfl
  obtain ⟨a, b, ns, c, rfl, hS, ⟨as, hB, hp⟩, hl, hc, q⟩ := h
  refine ⟨_, (pss_cons (ps_set (i := 2) sc_put.nd rfl (Or.inl rfl) (pe_callTy call_list_of rfl T.b_list PyProof.Rows.boot_list (pa_cons (pv 0) pa_nil)))
    (pss_cons (ps_for PassesOwn.never rfl (pi_list (pv 1)) (pg_tup rfl (pgs_cons (pg_name (i := 3) sc_put.nd rfl (Or.inl rfl)) (pgs_cons (pg_name (i := 4) sc_put.nd rfl (Or.inl rfl)) (pgs_cons (pg_name (i := 5) sc_put.nd rfl (Or.inl rfl)) pgs_nil)))) (pss_cons (ps_while PassesOwn.never (pt_cmpR op_le (pe_callB call_len_seq rfl T.b_len PySem.boot_len (pa_cons (pv 2) pa_nil)) (pv 3) (nomark _)) (pss_one (ps_expr (pe_bm PySem.F.plainAttrs_list PySem.F.slot_list_append PySem.F.type_list_append mt_append (pv 2) (pa_cons pe_int pa_nil)))))
    (pss_one (ps_asg (pv 5) (pg_sub (pv 2) (pv 3) set_list)))))
    (pss_cons (ps_while PassesOwn.never (PW.pt (pw_and (pt_cmpR op_gt (pe_callB call_len_seq rfl T.b_len PySem.boot_len (pa_cons (pv 2) pa_nil)) pe_int (nomark _)) (pw_and1 (pt_cmpR op_eq (pe_ix ix_list (pv 2) (pe_un un_neg pe_int) (fun _ _ => rfl)) pe_int (nomark _))))) (pss_one (ps_expr (pe_bm0 PySem.F.plainAttrs_list PySem.F.slot_list_pop PySem.F.type_list_pop mt_pop (pv 2)))))
    (pss_one (ps_ret (pv 2)))))), ?_⟩
  walk_at "sq"
  refine st_copy (K := K) (a := a) (by walk_at "pu") hS fun r nr => ?_
  walk_at "sq"
  refine st_forG (K := K) (a := b) (xs := as.map V.ref) (by walk_at "pu") (SqL.of (same_new nr _ _ _ hB)) (fun i σ H2 => ∃ f1 f2 f3, σ = [some (.ref a), some (.ref b), some (.ref r), f1, f2, f3] ∧ Same H H2 ∧ H2 r = some (.lst (iv (putL ns (c.take i)))))
    ⟨none, none, none, rfl, same_new nr _, upd_same⟩ (fun i σ H2 _ ⟨_, _, _, _, sm, _⟩ => SqL.of (sm _ _ hB)) ?_ ?_
  · rintro i x σ H2 hx ⟨f1, f2, f3, rfl, sm, h2⟩
    rw [List.getElem?_map] at hx
    obtain ⟨y, hy, rfl⟩ := Option.map_eq_some_iff.mp hx
    obtain ⟨t', ht', hta⟩ := Paired.at hp hy
    have hpl := hc t' (List.mem_of_getElem? ht')
    have hll : (putL ns (c.take i)).length ≤ 6000 := len_putL _ _ _ hl (fun z hz => hc z (List.mem_of_mem_take hz))
    refine ⟨y, _, rfl, SqT.of (sm _ _ hta), rfl, _, _, rfl, _, _, rfl, _, _, rfl, rfl, ?_⟩
    rw [take_at ht', putL_snoc]
    generalize putL ns (c.take i) = l at *
    obtain ⟨pl, bf, bh⟩ := t'
    walk_at "sq"
    refine st_while (fun m σ' H3 => ∃ j : Nat, m = pl + 1 - (l.length + j) ∧ j ≤ pl + 1 - l.length ∧ σ' = [some (.ref a), some (.ref b), some (.ref r), some (.int (pl : Int)), some (.int bf), some (.int bh)] ∧ Same H H3 ∧ H3 r = some (.lst (iv (l ++ List.replicate j 0))))
      ⟨_, 0, rfl, Nat.zero_le _, rfl, sm, by rw [h2]; simp⟩ ?_
    rintro m σ' H3 ⟨j, rfl, hj, rfl, sm3, h3⟩
    have hlen : (iv (l ++ List.replicate j 0)).length = l.length + j := by rw [ints_len, List.length_append, List.length_replicate]
    refine ⟨decide ((((iv (l ++ List.replicate j 0)).length : Nat) : Int) ≤ (pl : Int)), by walk_at "pu", fun e => ?_, fun e => ?_⟩
    · have e' := of_decide_eq_true e
      rw [hlen] at e'
      refine ⟨fun σ2 H4 => σ2 = [some (.ref a), some (.ref b), some (.ref r), some (.int (pl : Int)), some (.int bf), some (.int bh)] ∧ Same H H4 ∧ H4 r = some (.lst (iv (l ++ List.replicate (j + 1) 0))), fun σ2 H4 ⟨e1, e2, e3⟩ => ⟨pl + 1 - (l.length + (j + 1)), by omega, j + 1, rfl, by omega, e1, e2, e3⟩, ?_⟩
      walk_at "sq"
      refine st_append (K := K) (l := r) (by walk_at "pu") (by walk_at "pu") h3 (by rw [hlen]; omega) ?_
      refine ⟨rfl, same_upd nr sm3 _, ?_⟩
      rw [upd_same, List.replicate_succ', ← List.append_assoc, ← ints_app (l ++ List.replicate j 0) [0]]
      rfl
    · have e' := of_decide_eq_false e
      rw [hlen] at e'
      have ej : j = pl + 1 - l.length := by omega
      walk_at "sq"
      refine st_setix (l := r) (p := pl) (by walk_at "pu") (by walk_at "pu") (by walk_at "pu") h3 (by rw [← ints_len, hlen]; omega) ?_
      refine ⟨_, _, _, rfl, same_upd nr sm3 _, ?_⟩
      rw [upd_same, ej]
      rfl
  · rintro σ H2 ⟨f1, f2, f3, rfl, sm, h2⟩
    have hle : (as.map V.ref).length = c.length := by rw [List.length_map, Paired.len hp]
    rw [hle, List.take_length] at h2
    have hll : (putL ns c).length ≤ 6000 := len_putL _ _ _ hl hc
    have eq : putF ns c = trim (putL ns c) := rfl
    rw [eq] at q
    generalize putL ns c = l at *
    walk_at "sq"
    refine st_while (fun m σ' H3 => ∃ gs, σ' = [some (.ref a), some (.ref b), some (.ref r), f1, f2, f3] ∧ Same H H3 ∧ H3 r = some (.lst (iv gs)) ∧ gs.length = m ∧ trim gs = trim l) ⟨_, l, rfl, sm, h2, rfl, rfl⟩ ?_
    rintro m σ' H3 ⟨gs, rfl, sm3, h3, rfl, ht⟩
    refine ⟨_, pt_last (K := K) rfl (SqL.of h3), fun e => ?_, fun e => ?_⟩
    · obtain ⟨gs', rfl⟩ := endOk_snoc (notT e)
      refine ⟨fun σ2 H4 => σ2 = [some (.ref a), some (.ref b), some (.ref r), f1, f2, f3] ∧ Same H H4 ∧ H4 r = some (.lst (iv gs')), fun σ2 H4 ⟨e1, e2, e3⟩ => ⟨_, by rw [List.length_append]; simp, gs', e1, e2, e3, rfl, by rw [← ht, trim_snoc0]⟩, ?_⟩
      walk_at "sq"
      refine st_pop (K := K) (l := r) (y := .int 0) (by walk_at "pu") h3 (by simp) ?_
      exact ⟨rfl, same_upd nr sm3 _, by rw [upd_same, ints_dropLast, List.dropLast_concat]⟩
    · have hg2 : gs = trim l := by rw [← ht, trim_id (endOk_last (notF e))]
      walk_at "sq"
      refine st_ret (by walk_at "pu") (q r H3 nr sm3 ?_)
      rw [h3, hg2]
end
noncomputable def sp_back (K : PySem.W.Frag) : Sp := fun vs H Q _ => ∃ (b : Addr) (c : List Ch), vs = [.ref b] ∧ ChL H b c ∧ c.length ≤ 1000 ∧ ∀ r H', H r = none → Same H H' → ChL H' r (backF c) → Q (.ref r) H'
section
variable {P : Program} {w : World} {K : PySem.W.Frag} {mg : Str → Option Value} {base : Heap} {t : Adr}
theorem back_take {c : List Ch} {i : Nat} {x : Ch} (h : c[i]? = some x) : backF (c.take (i + 1)) = backF (c.take i) ++ [(x.1, x.2.2, x.2.1)] := by
  unfold backF
  rw [take_at h, List.map_append]; rfl
theorem ok_back (T : Txt K mg t) : FnOk P w K mg base CX0 1 t.a_turned_back t.d_turned_back ["some"] (sp_back K) := by
  refine T.f_turned_back.fn.ok sc_turned_back (fun vs H Q E h => ?_) (fun cdv A outer s H vs Q E hr h => ?_)
  · obtain ⟨b, c, rfl, _⟩ := h
    rfl
  obtain ⟨b, c, rfl, ⟨as, hB, hp⟩, hl, q⟩ := h
  refine ⟨_, (pss_one (ps_ret (pe_compF (Nt := ["place", "before", "behind"]) [] [] rfl rfl (by decide +kernel) (by decide +kernel) rfl (by decide +kernel) rfl (pi_list (pv 0)) (fun _ _ _ _ _ => (pg_tupK (K := K) (n := 3) rfl rfl (pgs_cons (pg_name (i := 0) (show List.Nodup ((["place", "before", "behind"] : List Str) ++ ([] : List Str) : List Str) by decide +kernel) rfl (Or.inl rfl)) (pgs_cons (pg_name (i := 1) (show List.Nodup ((["place", "before", "behind"] : List Str) ++ ([] : List Str) : List Str) by decide +kernel) rfl (Or.inl rfl)) (pgs_cons (pg_name (i := 2) (show List.Nodup ((["place", "before", "behind"] : List Str) ++ ([] : List Str) : List Str) by decide +kernel) rfl (Or.inl rfl)) pgs_nil))))) (fun _ _ _ _ _ => (pe_tup (pa_cons (pv 0) (pa_cons (pv 2) (pa_cons (pv 1) pa_nil)))))))), ?_⟩
  refine ⟨_, rfl, b, rfl, ⟨_, SqL.of hB⟩, fun acc hacc => comp_listF (K := K) (a := b) (xs := as.map V.ref) (fun i H2 => Same H H2 ∧ ∃ cs, H2 acc = some (.lst (cs.map V.ref)) ∧ TupsAt H2 cs (backF (c.take i))) ⟨same_new hacc _, [], upd_same, .nil⟩ (fun i H2 _ h => SqL.of (h.1 _ _ hB)) ?_ ?_⟩
  · rintro i x H2 hx ⟨sm, cs, h2, ht⟩
    rw [List.getElem?_map] at hx
    obtain ⟨y, hy, rfl⟩ := Option.map_eq_some_iff.mp hx
    obtain ⟨t', ht', hta⟩ := Paired.at hp hy
    have hi := get_lt ht'
    have hlen : cs.length ≤ 1000 := by
      have := Paired.len ht
      unfold backF at this
      rw [List.length_map, List.length_take] at this
      omega
    refine ⟨y, _, rfl, SqT.of (sm _ _ hta), rfl, _, _, rfl, _, _, rfl, _, _, rfl, rfl, _, rfl, _, rfl, _, rfl, small (by show 3 ≤ 1000; decide), fun z nz => ?_⟩
    have sz := same_new nz (.tup [V.int (t'.1 : Int), V.int t'.2.2, V.int t'.2.1])
    have h3 := sz _ _ h2
    refine ⟨_, h3, bigL (by rw [List.length_map]; omega), same_upd hacc (sm.trans sz) _, cs ++ [z], by rw [upd_same, List.map_append]; rfl, ?_⟩
    rw [back_take ht']
    exact TupsAt.upd (L2.Paired.snoc (TupsAt.same ht sz) upd_same) h3
  · rintro H2 ⟨sm, cs, h2, ht⟩
    have hle : (as.map V.ref).length = c.length := by rw [List.length_map, Paired.len hp]
    rw [hle, List.take_length] at ht
    exact q acc H2 hacc sm ⟨cs, h2, ht⟩
end
noncomputable def sp_deed (K : PySem.W.Frag) (r : Int) : Sp := fun vs H Q _ => ∃ (a : Addr) (ns : List Int) (p : Nat), vs = [.ref a, .int (p : Nat)] ∧ SqL K H a (iv ns) ∧ ns.length ≤ 5000 ∧ calmF ns = true ∧ p ≤ 399 ∧
  ∀ (c : Addr) (H' : Hp), H c = none → Same H H' → H' c = some (.lst (iv (deedF r ns p))) → Q (.ref c) H'
section
variable {P : Program} {w : World} {K : PySem.W.Frag} {mg : Str → Option Value} {base : Heap} {t : Adr}
theorem ok_added (T : Txt K mg t) (G_put : FnOk P w K mg base CX0 1 t.a_put t.d_put ["row", "some"] (sp_put K)) (G_changes : FnOk P w K mg base CX0 6 t.a_changes t.d_changes ["row", "place", "up"] (sp_changes K)) :
    FnOk P w K mg base CX0 7 t.a_added t.d_added ["row", "place"] (sp_deed K 1) := by
  refine T.f_added.fn.ok sc_added (fun vs H Q E h => ?_) (fun cdv A outer s H vs Q E hr h => ?_)
  · obtain ⟨a, ns, p, rfl, _⟩ := h
    rfl
  obtain ⟨a, ns, p, rfl, hS, hl, hc, hp, q⟩ := h
  refine ⟨_, (pss_one (ps_ret (pe_call G_put (hr.mono (by decide)) rfl T.f_put.mg T.f_put.fn.kp T.f_put.bd .nil pass0 (pa_cons (pv 0) (pa_cons (pe_call G_changes (hr.mono (by decide)) rfl T.f_changes.mg T.f_changes.fn.kp T.f_changes.bd .nil pass0 (pa_cons (pv 0) (pa_cons (pv 1) (pa_cons pe_bl pa_nil)))) pa_nil))))), ?_⟩
  exact ⟨_, rfl, _, rfl, _, rfl, a, ns, p, true, rfl, hS, by omega, hc, hp, fun r H1 nr s1 h1 => ⟨a, r, ns, _, rfl, s1.seq hS, h1, by omega, due_places (by omega) (by omega), fun c H' nc s' h' => q c H' (s1.free nc) (s1.trans s') h'⟩⟩
theorem ok_taken (T : Txt K mg t) (G_put : FnOk P w K mg base CX0 1 t.a_put t.d_put ["row", "some"] (sp_put K)) (G_changes : FnOk P w K mg base CX0 6 t.a_changes t.d_changes ["row", "place", "up"] (sp_changes K)) :
    FnOk P w K mg base CX0 7 t.a_taken t.d_taken ["row", "place"] (sp_deed K 0) := by
  refine T.f_taken.fn.ok sc_taken (fun vs H Q E h => ?_) (fun cdv A outer s H vs Q E hr h => ?_)
  · obtain ⟨a, ns, p, rfl, _⟩ := h
    rfl
  obtain ⟨a, ns, p, rfl, hS, hl, hc, hp, q⟩ := h
  refine ⟨_, (pss_one (ps_ret (pe_call G_put (hr.mono (by decide)) rfl T.f_put.mg T.f_put.fn.kp T.f_put.bd .nil pass0 (pa_cons (pv 0) (pa_cons (pe_call G_changes (hr.mono (by decide)) rfl T.f_changes.mg T.f_changes.fn.kp T.f_changes.bd .nil pass0 (pa_cons (pv 0) (pa_cons (pv 1) (pa_cons pe_bl pa_nil)))) pa_nil))))), ?_⟩
  exact ⟨_, rfl, _, rfl, _, rfl, a, ns, p, false, rfl, hS, by omega, hc, hp, fun r H1 nr s1 h1 => ⟨a, r, ns, _, rfl, s1.seq hS, h1, by omega, due_places (by omega) (by omega), fun c H' nc s' h' => q c H' (s1.free nc) (s1.trans s') h'⟩⟩
end
noncomputable def sp_joined (K : PySem.W.Frag) : Sp := fun vs H Q _ => ∃ (a b : Addr) (ns ms : List Int), vs = [.ref a, .ref b] ∧ SqL K H a (iv ns) ∧ SqL K H b (iv ms) ∧ ns.length ≤ 1000 ∧ ms.length ≤ 400 ∧ calmF ns = true ∧ calmF ms = true ∧
  ∀ (c : Addr) (H' : Hp), H c = none → Same H H' → H' c = some (.lst (iv (joinF ns 0 ms))) → Q (.ref c) H'
noncomputable def itD (r : Int) (l : List Int) (p : Nat) : Nat → List Int
  | 0 => l
  | k + 1 => deedF r (itD r l p k) p
theorem itD_len (r : Int) (l : List Int) (p : Nat) : ∀ k, (itD r l p k).length ≤ max (p + 2) l.length + k
  | 0 => by show l.length ≤ _; omega
  | k + 1 => by
    have := itD_len r l p k
    exact deed_len (by omega) (by omega)
theorem itD_calm {u : Bool} {l : List Int} (h : calmF l = true) (p : Nat) : ∀ k, calmF (itD (if u then 1 else 0) l p k) = true
  | 0 => h
  | k + 1 => by
    cases u
    · exact taken_calm (itD_calm (u := false) h p k) p
    · exact added_calm (itD_calm (u := true) h p k) p
theorem itD_step (l : List Int) (p : Nat) {z : Int} (h1 : -1 ≤ z) (h2 : z ≤ 2) : itD (if decide ((0 : Int) < z) then 1 else 0) l p (if z < 0 then -z else z).toNat = stepF l p z := by
  have h : z = -1 ∨ z = 0 ∨ z = 1 ∨ z = 2 := by omega
  rcases h with rfl | rfl | rfl | rfl <;> rfl
section
variable {P : Program} {w : World} {K : PySem.W.Frag} {mg : Str → Option Value} {base : Heap} {t : Adr}
theorem ok_joined (T : Txt K mg t) (G_refuse_if_not_calm : FnOk P w K mg base CX0 4 t.a_refuse_if_not_calm t.d_refuse_if_not_calm ["row"] (sp_refCalm K))
    (G_put : FnOk P w K mg base CX0 1 t.a_put t.d_put ["row", "some"] (sp_put K)) (G_step : FnOk P w K mg base CX0 5 t.a_step t.d_step ["row", "place", "up"] (sp_step K)) : FnOk P w K mg base CX0 6 t.a_joined t.d_joined ["one", "other"] (sp_joined K) := by
  refine T.f_joined.fn.ok sc_joined (fun vs H Q E h => ?_) (fun cdv A outer s H vs Q E hr h => ?_)
  · obtain ⟨a, b, ns, ms, rfl, _⟩ := h
    rfl
  obtain ⟨a, b, ns, ms, rfl, hS0, hB0, hl, hm, hc, hcm, q0⟩ := h
  refine ⟨_, (pss_cons (ps_expr (pe_call G_refuse_if_not_calm (hr.mono (by decide)) rfl T.f_refuse_if_not_calm.mg T.f_refuse_if_not_calm.fn.kp T.f_refuse_if_not_calm.bd .nil pass0 (pa_cons (pv 0) pa_nil)))
    (pss_cons (ps_expr (pe_call G_refuse_if_not_calm (hr.mono (by decide)) rfl T.f_refuse_if_not_calm.mg T.f_refuse_if_not_calm.fn.kp T.f_refuse_if_not_calm.bd .nil pass0 (pa_cons (pv 1) pa_nil)))
    (pss_cons (ps_set (i := 2) sc_joined.nd rfl (Or.inl rfl) (pe_callTy call_list_of rfl T.b_list PyProof.Rows.boot_list (pa_cons (pv 0) pa_nil)))
    (pss_cons (ps_for PassesOwn.never rfl (pi_enum rfl T.b_enumerate (pa_cons (pv 1) pa_nil)) (pg_tup rfl (pgs_cons (pg_name (i := 3) sc_joined.nd rfl (Or.inl rfl)) (pgs_cons (pg_name (i := 4) sc_joined.nd rfl (Or.inl rfl)) pgs_nil))) (pss_one (ps_for PassesOwn.never rfl (pi_range1 rfl T.b_range (pa_cons (pe_callB call_abs rfl T.b_abs PyProof.Rows.boot_abs (pa_cons (pv 4) pa_nil)) pa_nil)) (pg_name (i := 5) sc_joined.nd rfl (Or.inl rfl)) (pss_one (ps_set (i := 2) sc_joined.nd rfl (Or.inl rfl) (pe_call G_put (hr.mono (by decide)) rfl T.f_put.mg T.f_put.fn.kp T.f_put.bd .nil pass0 (pa_cons (pv 2) (pa_cons (pe_call G_step (hr.mono (by decide)) rfl T.f_step.mg T.f_step.fn.kp T.f_step.bd .nil pass0 (pa_cons (pv 2) (pa_cons (pv 3) (pa_cons (pe_cmpR op_gt (pv 4) pe_int (nomark _)) pa_nil)))) pa_nil))))))))
    (pss_one (ps_ret (pv 2))))))), ?_⟩
  walk_at "sq"
  refine ⟨_, rfl, a, ns, rfl, hS0, by omega, hc, fun H1 s1 => ?_⟩
  walk_at "sq"
  refine ⟨_, rfl, b, ms, rfl, s1.seq hB0, by omega, hcm, fun H2 s2 => ?_⟩
  have hS := (s1.trans s2).seq hS0
  have hB := (s1.trans s2).seq hB0
  have q : ∀ (c : Addr) (H' : Hp), H2 c = none → Same H2 H' → H' c = some (.lst (iv (joinF ns 0 ms))) → Q (.ref c) H' := fun c H' nc s' h' => q0 c H' ((s1.trans s2).free nc) ((s1.trans s2).trans s') h'
  have hf := (calm_cm hcm).1
  clear q0 hS0 hB0 s1 s2
  generalize H2 = H at *
  walk_at "sq"
  refine st_copy (K := K) (a := a) (by walk_at "pu") hS fun r0 n0 => ?_
  walk_at "sq"
  refine ⟨_, rfl, b, _, rfl, (same_new n0 _).seq hB, for_enum (K := K) (a := b) (xs := iv ms) (fun i σ H2 => ∃ r rs f1 f2 f3, σ = [some (.ref a), some (.ref b), some (.ref r), f1, f2, f3] ∧ Same H H2 ∧ H r = none ∧ H2 r = some (.lst (iv rs)) ∧ rs.length ≤ 1000 + 2 * i ∧ calmF rs = true ∧ joinF rs i (ms.drop i) = joinF ns 0 ms)
    ⟨r0, ns, none, none, none, rfl, same_new n0 _, n0, upd_same, by omega, hc, rfl⟩ (fun i σ H2 _ ⟨_, _, _, _, _, _, sm, _⟩ => sm.seq hB) ?_ ?_⟩
  · rintro i x Tp σ H2 hx ⟨r, rs, f1, f2, f3, rfl, sm, nr, h2, hrl, hrc, hj⟩ hT
    obtain ⟨z, hz, rfl⟩ := ints_get hx
    have hi := get_lt hz
    have hzf := hf z (List.mem_of_getElem? hz)
    have sT := same_new hT (.tup [V.int (i : Nat), V.int z])
    have h3 := sT _ _ h2
    have sm3 := sm.trans sT
    refine ⟨Tp, _, rfl, SqT.of upd_same, rfl, _, _, rfl, _, _, rfl, rfl, ?_⟩
    generalize upd H2 Tp (.tup [V.int (i : Nat), V.int z]) = H3 at *
    have e1 := itD_step rs i hzf.1 hzf.2
    walk_at "sq"
    refine st_range (j := if z < 0 then -z else z) (fun Q q => ⟨_, rfl, z, rfl, q⟩) (by split <;> omega) (by split <;> omega) (fun k σ H5 => ∃ u f, σ = [some (.ref a), some (.ref b), some (.ref u), some (.int (i : Nat)), some (.int z), f] ∧ Same H H5 ∧ H u = none ∧ H5 u = some (.lst (iv (itD (if decide ((0 : Int) < z) then 1 else 0) rs i k)))) ⟨r, f3, rfl, sm3, nr, h3⟩ ?_ ?_
    · rintro k σ H5 hk ⟨u, f, rfl, S5, nu, h5⟩
      have l3 := itD_len (if decide ((0 : Int) < z) then 1 else 0) rs i k
      have hk2 : k < 3 := by
        have : (if z < 0 then -z else z) ≤ 2 := by split <;> omega
        omega
      have c3 := itD_calm (u := decide ((0 : Int) < z)) hrc i k
      walk_at "sq"
      refine ⟨_, rfl, _, rfl, _, rfl, _, rfl, _, _, rfl, rfl, u, _, i, decide ((0 : Int) < z), rfl, SqL.of h5, c3, fun c H6 n6 s6 h6 => ?_⟩
      exact ⟨u, c, _, _, rfl, SqL.of (s6 _ _ h5), h6, by omega, due_places (by omega) (by omega), fun d H7 n7 s7 h7 => ⟨d, _, rfl, (S5.trans s6).trans s7, (S5.trans s6).free n7, h7⟩⟩
    · rintro σ H5 ⟨u, f, rfl, S5, nu, h5⟩
      rw [e1] at h5
      refine ⟨u, _, _, _, _, rfl, S5, nu, h5, step_len (by omega) (by omega), step_calm hrc i z, ?_⟩
      rw [← hj, List.drop_eq_getElem_cons hi]
      have ez : ms[i] = z := (List.getElem?_eq_some_iff.mp hz).2
      rw [ez]
      rfl
  · rintro σ H2 ⟨r, rs, f1, f2, f3, rfl, sm, nr, h2, hrl, hrc, hj⟩
    walk_at "sq"
    refine st_ret (by walk_at "pu") (q r H2 nr sm ?_)
    rw [ints_len, List.drop_length] at hj
    rw [h2, ← hj]
    rfl
end
noncomputable def flds (rw dd : Addr) : List (Str × V) := L2.putF "deeds" (.ref dd) (L2.putF "row" (.ref rw) [])
theorem ne_dr : ¬ (("row" : Str) = "deeds") := by decide +kernel
theorem fl_row (rw dd : Addr) : (flds rw dd).lookup ("row" : Str) = some (.ref rw) := by
  unfold flds
  rw [lookup_putF, if_neg ne_dr, lookup_putF, if_pos rfl]
theorem fl_deeds (rw dd : Addr) : (flds rw dd).lookup ("deeds" : Str) = some (.ref dd) := by
  unfold flds
  rw [lookup_putF, if_pos rfl]
theorem fl_no (rw dd : Addr) {m : Str} (h1 : ¬ m = "deeds") (h2 : ¬ m = "row") : (flds rw dd).lookup m = none := by
  unfold flds
  rw [lookup_putF, if_neg h1, lookup_putF, if_neg h2]
  all_goals rfl
theorem fl_eq (rw dd : Addr) : flds rw dd = ([("row", .ref rw), ("deeds", .ref dd)] : List (Str × V)) := by
  unfold flds
  show (if ("row" : Str) = "deeds" then _ else (("row" : Str), V.ref rw) :: [(("deeds" : Str), V.ref dd)]) = _
  rw [if_neg ne_dr]
theorem fl_put (rw dd r : Addr) : L2.putF "row" (.ref r) (flds rw dd) = flds r dd := by
  rw [fl_eq, fl_eq]
  show (if ("row" : Str) = "row" then (("row" : Str), V.ref r) :: [(("deeds" : Str), V.ref dd)] else _) = _
  rw [if_pos rfl]
theorem fl_len (rw dd : Addr) : (flds rw dd).length < 1000 := by rw [fl_eq]; show 2 < 1000; decide
structure CtrAt (C : Addr) (H : Hp) (p rw dd : Addr) (l : List Int) (as : List Addr) (cs : List (List Ch)) : Prop where
  ob : ∃ dx, H p = some (.ins C dx (flds rw dd))
  row : H rw = some (.lst (iv l))
  dds : H dd = some (.lst (as.map V.ref))
  chs : Paired (fun a c => ChL H a c ∧ a ≠ dd) as cs
theorem CtrAt.same {C : Addr} {H H' : Hp} {p rw dd : Addr} {l : List Int} {as : List Addr} {cs : List (List Ch)} (h : CtrAt C H p rw dd l as cs) (s : Same H H') : CtrAt C H' p rw dd l as cs := by
  obtain ⟨⟨dx, h1⟩, h2, h3, h4⟩ := h
  exact ⟨⟨dx, s _ _ h1⟩, s _ _ h2, s _ _ h3, Paired.mapP h4 fun a c x => ⟨x.1.same s, x.2⟩⟩
noncomputable def But2 (p d : Addr) (H H' : Hp) : Prop := ∀ b o, b ≠ p → b ≠ d → H b = some o → H' b = some o
noncomputable def sp_cinit (C : Addr) : Sp := fun vs H Q _ => ∃ p dx, vs = [.ref p] ∧ H p = some (.ins C dx []) ∧ ∀ rw dd H', H rw = none → H dd = none → rw ≠ dd → (∀ b o, b ≠ p → H b = some o → H' b = some o) → CtrAt C H' p rw dd [] [] [] → Q .non H'
noncomputable def CtrDeed (C : Addr) (H : Hp) (Q : VK) (p : Addr) (pl : Nat) (r : Int) : Prop := ∃ rw dd l as cs, CtrAt C H p rw dd l as cs ∧ calmF l = true ∧ l.length ≤ 5000 ∧ pl ≤ 399 ∧ as.length ≤ 1000 ∧
  ∀ rs rw' a' H', H rs = none → H rw' = none → H a' = none → rs ≠ a' → rs ≠ rw' → But2 p dd H H' → CtrAt C H' p rw' dd (deedF r l pl) (as ++ [a']) (cs ++ [dueF r l pl]) → ChL H' rs (dueF r l pl) → Q (.ref rs) H'
noncomputable def sp_carry (C : Addr) : Sp := fun vs H Q _ => ∃ (p : Addr) (pl : Nat) (u : Bool), vs = [.ref p, .int (pl : Nat), .bl u] ∧ CtrDeed C H Q p pl (if u then 1 else 0)
noncomputable def sp_cdeed (C : Addr) (r : Int) : Sp := fun vs H Q _ => ∃ (p : Addr) (pl : Nat), vs = [.ref p, .int (pl : Nat)] ∧ CtrDeed C H Q p pl r
noncomputable def sp_undo (C N : Addr) : Sp := fun vs H Q E => ∃ p rw dd l as cs, vs = [.ref p] ∧ CtrAt C H p rw dd l as cs ∧ l.length ≤ 5000 ∧ (as = [] → E (.ref N) none H) ∧
  ∀ as0 a0 cs0 c0, as = as0 ++ [a0] → cs = cs0 ++ [c0] → c0.length ≤ 1000 ∧ (∀ t ∈ c0, t.1 < 6000) ∧ ∀ rs rw' H', H rs = none → H rw' = none → rs ≠ rw' → But2 p dd H H' → CtrAt C H' p rw' dd (Mth.putF l (backF c0)) as0 cs0 → ChL H' rs (backF c0) → Q (.ref rs) H'
noncomputable def sp_figures (C : Addr) : Sp := fun vs H Q _ => ∃ p rw dd l as cs, vs = [.ref p] ∧ CtrAt C H p rw dd l as cs ∧ ∀ r H', H r = none → Same H H' → H' r = some (.lst (iv l)) → Q (.ref r) H'
noncomputable def sp_amount (C : Addr) : Sp := fun vs H Q _ => ∃ p rw dd l as cs, vs = [.ref p] ∧ CtrAt C H p rw dd l as cs ∧ Q (.int (worthF l)) H
noncomputable def sp_many (C : Addr) : Sp := fun vs H Q _ => ∃ p rw dd l as cs, vs = [.ref p] ∧ CtrAt C H p rw dd l as cs ∧ Q (.int (as.length : Nat)) H
section
variable {P : Program} {w : World} {K : PySem.W.Frag} {mg : Str → Option Value} {base : Heap} {t : Adr}
theorem ok_cinit (T : Txt K mg t) : FnOk P w K mg base CX0 1 t.a_Counter___init__ t.d_Counter___init__ ["self"] (sp_cinit t.c_own) := by
  refine T.f_Counter___init__.fn.ok sc_Counter___init__ (fun vs H Q E h => ?_) (fun cdv A outer s H vs Q E hr h => ?_)
  · obtain ⟨p, dx, rfl, _⟩ := h
    rfl
  obtain ⟨p, dx, rfl, hp, q⟩ := h
  refine ⟨_, (pss_cons (ps_fld (pv 0) (pe_lst pa_nil) rfl)
    (pss_one (ps_fld (pv 0) (pe_lst pa_nil) rfl))), ?_⟩
  refine ⟨Nat.zero_le _, fun rw nrw => ?_⟩
  have npr : p ≠ rw := ne_of_none hp nrw
  refine ⟨_, rfl, p, _, dx, [], rfl, (by rw [upd_ne npr]; exact hp), T.cl_own, T.na_row, by decide, ?_⟩
  refine ⟨Nat.zero_le _, fun dd ndd => ?_⟩
  have npd : p ≠ dd := fun e => by rw [e, upd_same] at ndd; cases ndd
  have ndr : dd ≠ rw := fun e => by
    rw [e, upd_ne (Ne.symm npr), upd_same] at ndd; cases ndd
  refine ⟨_, rfl, p, _, dx, _, rfl, (by rw [upd_ne npd, upd_same]), T.cl_own, T.na_deeds, by show 1 < 1000; decide, ?_⟩
  have ndd0 : H dd = none := by rw [upd_ne (Ne.symm npd), upd_ne ndr] at ndd; exact ndd
  refine q rw dd _ nrw ndd0 (Ne.symm ndr) (fun b o nb e => ?_) ⟨⟨dx, upd_same⟩, ?_, ?_, .nil⟩
  · rw [upd_ne nb, upd_ne (ne_of_none e ndd0), upd_ne nb, upd_ne (ne_of_none e nrw)]; exact e
  · rw [upd_ne (Ne.symm npr), upd_ne (Ne.symm ndr), upd_ne (Ne.symm npr), upd_same]; rfl
  · rw [upd_ne (Ne.symm npd), upd_same]; rfl
theorem ok_carry (T : Txt K mg t) (G_refuse_if_no_place : FnOk P w K mg base CX0 2 t.a_refuse_if_no_place t.d_refuse_if_no_place ["place"] sp_refPlace) (G_put : FnOk P w K mg base CX0 1 t.a_put t.d_put ["row", "some"] (sp_put K))
    (G_step : FnOk P w K mg base CX0 5 t.a_step t.d_step ["row", "place", "up"] (sp_step K)) : FnOk P w K mg base CX0 6 t.a_Counter_carry_out t.d_Counter_carry_out ["self", "place", "up"] (sp_carry t.c_own) := by
  refine T.f_Counter_carry_out.fn.ok sc_Counter_carry_out (fun vs H Q E h => ?_) (fun cdv A outer s H vs Q E hr h => ?_)
  · obtain ⟨p, pl, u, rfl, _⟩ := h
    rfl
  obtain ⟨p, pl, u, rfl, rw, dd, l, as, cs, hA, hc, hl, hp, hal, q⟩ := h
  refine ⟨_, (pss_cons (ps_expr (pe_call G_refuse_if_no_place (hr.mono (by decide)) rfl T.f_refuse_if_no_place.mg T.f_refuse_if_no_place.fn.kp T.f_refuse_if_no_place.bd .nil pass0 (pa_cons (pv 1) pa_nil)))
    (pss_cons (ps_set (i := 3) sc_Counter_carry_out.nd rfl (Or.inl rfl) (pe_call G_step (hr.mono (by decide)) rfl T.f_step.mg T.f_step.fn.kp T.f_step.bd .nil pass0 (pa_cons (pe_fld (pv 0) rfl) (pa_cons (pv 1) (pa_cons (pv 2) pa_nil)))))
    (pss_cons (ps_fld (pv 0) (pe_call G_put (hr.mono (by decide)) rfl T.f_put.mg T.f_put.fn.kp T.f_put.bd .nil pass0 (pa_cons (pe_fld (pv 0) rfl) (pa_cons (pv 3) pa_nil))) rfl)
    (pss_cons (ps_expr (pe_bm PySem.F.plainAttrs_list PySem.F.slot_list_append PySem.F.type_list_append mt_append (pe_fld (pv 0) rfl) (pa_cons (pv 3) pa_nil)))
    (pss_one (ps_ret (pe_callTy call_list_of rfl T.b_list PyProof.Rows.boot_list (pa_cons (pv 3) pa_nil)))))))), ?_⟩
  obtain ⟨⟨dx, h1⟩, h2, h3, h4⟩ := id hA
  walk_at "sq"
  refine st_drop (pu_call (sp := sp_refPlace) (pu_cons (pu_var rfl) pu_nil) (fun Q q => ⟨pl, rfl, hp, q⟩)) ?_
  walk_at "sq"
  refine st_te ⟨_, rfl, p, _, dx, _, _, rfl, h1, T.cl_own, T.na_row, fl_row _ _, _, rfl, _, rfl, rw, l, pl, u, rfl, SqL.of h2, hc, fun sm H1 nsm s1 c1 => ?_⟩
  walk_at "sq"
  refine ⟨_, rfl, p, _, dx, _, _, rfl, s1 _ _ h1, T.cl_own, T.na_row, fl_row _ _, _, rfl, rw, sm, l, _, rfl, SqL.of (s1 _ _ h2), c1, by omega, due_places (by omega) (by omega), fun r H2 nr s2 r2 => ?_⟩
  have S2 := s1.trans s2
  have p2 := S2 _ _ h1
  have d2 := S2 _ _ h3
  have c2 := c1.same s2
  have npd : p ≠ dd := fun e => by rw [e, h3] at h1; cases h1
  have nsr : sm ≠ r := fun e => by obtain ⟨_, z, _⟩ := c1; rw [e, nr] at z; cases z
  have nr0 : H r = none := s1.free nr
  refine ⟨_, rfl, p, _, dx, _, rfl, p2, T.cl_own, T.na_row, fl_len _ _, ?_⟩
  rw [fl_put]
  have d3 : upd H2 p (.ins t.c_own dx (flds r dd)) dd = some (.lst (as.map V.ref)) := by rw [upd_ne (Ne.symm npd)]; exact d2
  walk_at "sq"
  refine ⟨_, rfl, p, _, dx, _, _, rfl, upd_same, T.cl_own, T.na_deeds, fl_deeds _ _, .inl ⟨rfl, _, SqL.of d3⟩, _, rfl, dd, _, _, rfl, rfl, d3, bigL (by rw [List.length_map]; omega), ?_⟩
  have ns_p : sm ≠ p := fun e => by rw [e, h1] at nsm; cases nsm
  have ns_d : sm ≠ dd := fun e => by rw [e, h3] at nsm; cases nsm
  have nr_p : r ≠ p := fun e => by rw [e, h1] at nr0; cases nr0
  have nr_d : r ≠ dd := fun e => by rw [e, h3] at nr0; cases nr0
  have b4 : But2 p dd H2 (upd (upd H2 p (.ins t.c_own dx (flds r dd))) dd (.lst (as.map V.ref ++ [.ref sm]))) := fun b o n1 n2 e => by rw [upd_ne n2, upd_ne n1]; exact e
  have ch : ∀ {a : Addr} {c : List Ch}, ChL H2 a c → a ≠ p → a ≠ dd → ChL (upd (upd H2 p (.ins t.c_own dx (flds r dd))) dd (.lst (as.map V.ref ++ [.ref sm]))) a c := fun {a c} ⟨bs, e, hb⟩ n1 n2 =>
    ⟨bs, b4 _ _ n1 n2 e, Paired.mapP hb fun x y z => b4 _ _ (fun e => by rw [e, p2] at z; cases z) (fun e => by rw [e, d2] at z; cases z) z⟩
  have c4 := ch c2 ns_p ns_d
  have r4 := b4 _ _ nr_p nr_d r2
  have p4 : upd (upd H2 p (.ins t.c_own dx (flds r dd))) dd (.lst (as.map V.ref ++ [.ref sm])) p = some (.ins t.c_own dx (flds r dd)) := by rw [upd_ne npd, upd_same]
  have d4 : upd (upd H2 p (.ins t.c_own dx (flds r dd))) dd (.lst (as.map V.ref ++ [.ref sm])) dd = some (.lst (as.map V.ref ++ [.ref sm])) := upd_same
  have h44 : Paired (fun a c => ChL (upd (upd H2 p (.ins t.c_own dx (flds r dd))) dd (.lst (as.map V.ref ++ [.ref sm]))) a c ∧ a ≠ dd) as cs := Paired.mapP h4 fun a c ⟨x, y⟩ => ⟨ch (x.same S2) (fun e => by obtain ⟨_, z, _⟩ := x; rw [e, h1] at z; cases z) y, y⟩
  generalize upd (upd H2 p (.ins t.c_own dx (flds r dd))) dd (.lst (as.map V.ref ++ [.ref sm])) = H4 at *
  obtain ⟨bs, e4, hb4⟩ := id c4
  walk_at "sq"
  refine ⟨_, rfl, sm, _, rfl, .inl (SqL.of e4), fun rs nrs => ?_⟩
  have s5 := same_new nrs (.lst (bs.map V.ref))
  have B : But2 p dd H (upd H4 rs (.lst (bs.map V.ref))) := fun b o n1 n2 e => s5 _ _ (b4 _ _ n1 n2 (S2 _ _ e))
  have nrs0 : H rs = none := by
    cases z : H rs with
    | none => rfl
    | some o =>
      exfalso
      by_cases n1 : rs = p
      · rw [n1, p4] at nrs; cases nrs
      · by_cases n2 : rs = dd
        · rw [n2, d4] at nrs; cases nrs
        · rw [b4 _ _ n1 n2 (S2 _ _ z)] at nrs; cases nrs
  refine q rs r sm _ nrs0 nr0 nsm (fun e => by rw [e, e4] at nrs; cases nrs) (fun e => by rw [e, r4] at nrs; cases nrs) B ⟨⟨dx, s5 _ _ p4⟩, s5 _ _ r4, by rw [s5 _ _ d4, List.map_append]; rfl, ?_⟩ ⟨bs, upd_same, TupsAt.same hb4 s5⟩
  exact L2.Paired.snoc (Paired.mapP h44 fun a c x => ⟨x.1.same s5, x.2⟩) ⟨c4.same s5, ns_d⟩
theorem ok_cadd (T : Txt K mg t) (G_Counter_carry_out : FnOk P w K mg base CX0 6 t.a_Counter_carry_out t.d_Counter_carry_out ["self", "place", "up"] (sp_carry t.c_own)) : FnOk P w K mg base CX0 7 t.a_Counter_add t.d_Counter_add ["self", "place"] (sp_cdeed t.c_own 1) := by
  refine T.f_Counter_add.fn.ok sc_Counter_add (fun vs H Q E h => ?_) (fun cdv A outer s H vs Q E hr h => ?_)
  · obtain ⟨p, pl, rfl, _⟩ := h
    rfl
  obtain ⟨p, pl, rfl, hd⟩ := h
  refine ⟨_, (pss_one (ps_ret (pe_meth (pv 0) T.cl_own T.m_carry_out G_Counter_carry_out (hr.mono (by decide)) T.f_Counter_carry_out.bd .nil pass0 (pa_cons (pv 1) (pa_cons pe_bl pa_nil))))), ?_⟩
  obtain ⟨rw, dd, l, as, cs, hA, hq⟩ := id hd
  obtain ⟨dx, h1⟩ := hA.ob
  exact ⟨_, rfl, p, dx, _, rfl, h1, fl_no _ _ (by decide +kernel) (by decide +kernel), _, rfl, p, pl, true, rfl, hd⟩
theorem ok_ctake (T : Txt K mg t) (G_Counter_carry_out : FnOk P w K mg base CX0 6 t.a_Counter_carry_out t.d_Counter_carry_out ["self", "place", "up"] (sp_carry t.c_own)) : FnOk P w K mg base CX0 7 t.a_Counter_take t.d_Counter_take ["self", "place"] (sp_cdeed t.c_own 0) := by
  refine T.f_Counter_take.fn.ok sc_Counter_take (fun vs H Q E h => ?_) (fun cdv A outer s H vs Q E hr h => ?_)
  · obtain ⟨p, pl, rfl, _⟩ := h
    rfl
  obtain ⟨p, pl, rfl, hd⟩ := h
  refine ⟨_, (pss_one (ps_ret (pe_meth (pv 0) T.cl_own T.m_carry_out G_Counter_carry_out (hr.mono (by decide)) T.f_Counter_carry_out.bd .nil pass0 (pa_cons (pv 1) (pa_cons pe_bl pa_nil))))), ?_⟩
  obtain ⟨rw, dd, l, as, cs, hA, hq⟩ := id hd
  obtain ⟨dx, h1⟩ := hA.ob
  exact ⟨_, rfl, p, dx, _, rfl, h1, fl_no _ _ (by decide +kernel) (by decide +kernel), _, rfl, p, pl, false, rfl, hd⟩
theorem ok_figures (T : Txt K mg t) : FnOk P w K mg base CX0 1 t.a_Counter_figures t.d_Counter_figures ["self"] (sp_figures t.c_own) := by
  refine T.f_Counter_figures.fn.ok sc_Counter_figures (fun vs H Q E h => ?_) (fun cdv A outer s H vs Q E hr h => ?_)
  · obtain ⟨p, rw, dd, l, as, cs, rfl, _⟩ := h
    rfl
  obtain ⟨p, rw, dd, l, as, cs, rfl, ⟨⟨dx, h1⟩, h2, h3, h4⟩, q⟩ := h
  refine ⟨_, (pss_one (ps_ret (pe_callTy call_list_of rfl T.b_list PyProof.Rows.boot_list (pa_cons (pe_fld (pv 0) rfl) pa_nil)))), ?_⟩
  exact ⟨_, rfl, p, _, dx, _, _, rfl, h1, T.cl_own, T.na_row, fl_row _ _, rw, _, rfl, .inl (SqL.of h2), fun r nr => q r _ nr (same_new nr _) upd_same⟩
theorem ok_amount (T : Txt K mg t) (G_worth : FnOk P w K mg base CX0 1 t.a_worth t.d_worth ["row"] (sp_worth K)) : FnOk P w K mg base CX0 2 t.a_Counter_amount t.d_Counter_amount ["self"] (sp_amount t.c_own) := by
  refine T.f_Counter_amount.fn.ok sc_Counter_amount (fun vs H Q E h => ?_) (fun cdv A outer s H vs Q E hr h => ?_)
  · obtain ⟨p, rw, dd, l, as, cs, rfl, _⟩ := h
    rfl
  obtain ⟨p, rw, dd, l, as, cs, rfl, ⟨⟨dx, h1⟩, h2, h3, h4⟩, q⟩ := h
  refine ⟨_, (pss_one (ps_ret (pe_call G_worth (hr.mono (by decide)) rfl T.f_worth.mg T.f_worth.fn.kp T.f_worth.bd .nil pass0 (pa_cons (pe_fld (pv 0) rfl) pa_nil)))), ?_⟩
  exact ⟨_, rfl, p, _, dx, _, _, rfl, h1, T.cl_own, T.na_row, fl_row _ _, rw, l, rfl, SqL.of h2, q⟩
theorem ok_many (T : Txt K mg t) : FnOk P w K mg base CX0 1 t.a_Counter_many t.d_Counter_many ["self"] (sp_many t.c_own) := by
  refine T.f_Counter_many.fn.ok sc_Counter_many (fun vs H Q E h => ?_) (fun cdv A outer s H vs Q E hr h => ?_)
  · obtain ⟨p, rw, dd, l, as, cs, rfl, _⟩ := h
    rfl
  obtain ⟨p, rw, dd, l, as, cs, rfl, ⟨⟨dx, h1⟩, h2, h3, h4⟩, q⟩ := h
  refine ⟨_, (pss_one (ps_ret (pe_callB call_len_seq rfl T.b_len PySem.boot_len (pa_cons (pe_fld (pv 0) rfl) pa_nil)))), ?_⟩
  refine ⟨_, rfl, p, _, dx, _, _, rfl, h1, T.cl_own, T.na_deeds, fl_deeds _ _, dd, _, rfl, .inl (SqL.of h3), ?_⟩
  rw [List.length_map]
  exact q
end
section
variable {P : Program} {w : World} {K : PySem.W.Frag} {mg : Str → Option Value} {base : Heap} {t : Adr}
theorem ok_undo (T : Txt K mg t) (G_put : FnOk P w K mg base CX0 1 t.a_put t.d_put ["row", "some"] (sp_put K)) (G_turned_back : FnOk P w K mg base CX0 1 t.a_turned_back t.d_turned_back ["some"] (sp_back K)) :
    FnOk P w K mg base (CX1 P w) 2 t.a_Counter_undo t.d_Counter_undo ["self"] (sp_undo t.c_own t.c_NothingDone) := by
  refine T.f_Counter_undo.fn.okE sc_Counter_undo (fun vs H Q E h => ?_) (fun cdv A outer s H vs Q E hr h => ?_)
  · obtain ⟨p, rw, dd, l, as, cs, rfl, _⟩ := h
    rfl
  obtain ⟨p, rw, dd, l, as, cs, rfl, hA, hl, q0, q1⟩ := h
  refine ⟨_, (pss_cons (ps_if (pt_cmpR op_eq (pe_callB call_len_seq rfl T.b_len PySem.boot_len (pa_cons (pe_fld (pv 0) rfl) pa_nil)) pe_int (nomark _)) (pss_one (ps_raise rais_cx rfl T.e_NothingDone rfl (pa_cons pe_str pa_nil))) pss_nil)
    (pss_cons (ps_set (i := 1) sc_Counter_undo.nd rfl (Or.inl rfl) (pe_call G_turned_back (hr.mono (by decide)) rfl T.f_turned_back.mg T.f_turned_back.fn.kp T.f_turned_back.bd .nil pass0 (pa_cons (pe_bm0 PySem.F.plainAttrs_list PySem.F.slot_list_pop PySem.F.type_list_pop mt_pop (pe_fld (pv 0) rfl)) pa_nil)))
    (pss_cons (ps_fld (pv 0) (pe_call G_put (hr.mono (by decide)) rfl T.f_put.mg T.f_put.fn.kp T.f_put.bd .nil pass0 (pa_cons (pe_fld (pv 0) rfl) (pa_cons (pv 1) pa_nil))) rfl)
    (pss_one (ps_ret (pv 1)))))), ?_⟩
  obtain ⟨⟨dx, h1⟩, h2, h3, h4⟩ := id hA
  walk_at "sq"
  refine st_ifQ ⟨_, rfl, p, _, dx, _, _, rfl, h1, T.cl_own, T.na_deeds, fl_deeds _ _, dd, _, rfl, .inl (SqL.of h3), rfl, _, rfl, ?_⟩
  rw [dec_v, List.length_map]
  refine ite2 (fun e => ?_) (fun e => ?_)
  · have e0 : as = [] := List.length_eq_zero_iff.mp (by have := of_decide_eq_true e; omega)
    exact ⟨Nat.le_of_ble_eq_true rfl, q0 e0⟩
  · have hne : as ≠ [] := fun z => e (by rw [z]; rfl)
    obtain ⟨as0, a0, rfl⟩ : ∃ as0 a0, as = as0 ++ [a0] := ⟨as.dropLast, as.getLast hne, (List.dropLast_concat_getLast hne).symm⟩
    obtain ⟨cs0, c0, rfl⟩ : ∃ cs0 c0, cs = cs0 ++ [c0] := by
      have hl : cs ≠ [] := fun z => by have := Paired.len h4; rw [z] at this; simp at this
      exact ⟨cs.dropLast, cs.getLast hl, (List.dropLast_concat_getLast hl).symm⟩
    obtain ⟨hc0, hp0, q⟩ := q1 as0 a0 cs0 c0 rfl rfl
    obtain ⟨g4, g0⟩ := Paired.unsnoc h4
    have npd : p ≠ dd := fun e => by rw [e, h3] at h1; cases h1
    walk_at "sq"
    have d5 : upd H dd (.lst ((as0 ++ [a0]).map V.ref).dropLast) dd = some (.lst (as0.map V.ref)) := by rw [upd_same, List.map_append, List.map_cons, List.map_nil, List.dropLast_concat]
    have b5 : But dd H (upd H dd (.lst ((as0 ++ [a0]).map V.ref).dropLast)) := But.upd _ _ _
    have nrd : rw ≠ dd := fun e => by
      rw [e, h3] at h2
      have z : (as0 ++ [a0]).map V.ref = iv l := by injection h2 with h2; injection h2
      have z2 : V.ref a0 ∈ iv l := by rw [← z]; simp
      obtain ⟨i, _, z3⟩ := List.mem_map.mp z2
      cases z3
    have p5 := b5 _ _ npd h1
    have r5 := b5 _ _ nrd h2
    have a5 := g0.1.but b5 h3 g0.2
    have g5 : Paired (fun a c => ChL (upd H dd (.lst ((as0 ++ [a0]).map V.ref).dropLast)) a c ∧ a ≠ dd) as0 cs0 := Paired.mapP g4 fun a c x => ⟨x.1.but b5 h3 x.2, x.2⟩
    walk_at "sq"
    refine st_te ⟨_, rfl, p, _, dx, _, _, rfl, h1, T.cl_own, T.na_deeds, fl_deeds _ _, .inl ⟨rfl, _, SqL.of h3⟩, dd, _, .ref a0, rfl, rfl, h3, by simp, a0, c0, rfl, a5, hc0, fun sm H6 nsm s6 c6 => ?_⟩
    generalize upd H dd (.lst ((as0 ++ [a0]).map V.ref).dropLast) = H5 at *
    have hbp : ∀ x ∈ backF c0, x.1 < 6000 := fun x hx => by
      unfold backF at hx
      obtain ⟨y, hy, rfl⟩ := List.mem_map.mp hx
      exact hp0 y hy
    walk_at "sq"
    refine ⟨_, rfl, p, _, dx, _, _, rfl, s6 _ _ p5, T.cl_own, T.na_row, fl_row _ _, _, rfl, rw, sm, l, _, rfl, SqL.of (s6 _ _ r5), c6, by omega, hbp, fun r H7 nr s7 r7 => ?_⟩
    have S7 := s6.trans s7
    have p7 := S7 _ _ p5
    have d7 := S7 _ _ d5
    have c7 := c6.same s7
    have nsr : sm ≠ r := fun e => by obtain ⟨_, z, _⟩ := c6; rw [e, nr] at z; cases z
    have nr5 : H5 r = none := s6.free nr
    have free : ∀ b, H5 b = none → H b = none := fun b hb => by
      cases z : H b with
      | none => rfl
      | some o =>
        exfalso
        by_cases n : b = dd
        · rw [n, d5] at hb; cases hb
        · rw [b5 _ _ n z] at hb; cases hb
    refine ⟨_, rfl, p, _, dx, _, rfl, p7, T.cl_own, T.na_row, fl_len _ _, ?_⟩
    rw [fl_put]
    have ns_p : sm ≠ p := fun e => by rw [e, p5] at nsm; cases nsm
    have nr_p : r ≠ p := fun e => by rw [e, p5] at nr5; cases nr5
    have b8 : ∀ b o, b ≠ p → H7 b = some o → upd H7 p (.ins t.c_own dx (flds r dd)) b = some o := fun b o n1 e => by rw [upd_ne n1]; exact e
    have ch : ∀ {a : Addr} {c : List Ch}, ChL H7 a c → a ≠ p → ChL (upd H7 p (.ins t.c_own dx (flds r dd))) a c := fun {a c} ⟨bs, e, hb⟩ n1 =>
      ⟨bs, b8 _ _ n1 e, Paired.mapP hb fun x y z => b8 _ _ (fun e => by rw [e, p7] at z; cases z) z⟩
    walk_at "sq"
    refine st_ret (pu_var rfl) (q sm r _ (free _ nsm) (free _ nr5) nsr (fun b o n1 n2 e => b8 _ _ n1 (S7 _ _ (b5 _ _ n2 e))) ⟨⟨dx, upd_same⟩, b8 _ _ nr_p r7, b8 _ _ (Ne.symm npd) d7, Paired.mapP g5 fun a c x => ⟨ch (x.1.same S7) (fun e => by obtain ⟨_, z, _⟩ := x.1; rw [e, p5] at z; cases z), x.2⟩⟩ (ch c7 ns_p))
end
noncomputable def sp_refCalmE (K : PySem.W.Frag) (C : Addr) : Sp := fun vs H Q E => ∃ (a : Addr) (ns : List Int), vs = [.ref a] ∧ SqL K H a (iv ns) ∧ ns.length ≤ 90000 ∧ (calmF ns = true → ∀ H', Same H H' → Q .non H') ∧ (calmF ns = false → ∀ H', Same H H' → E (.ref C) none H')
noncomputable def sp_shown (K : PySem.W.Frag) (C : Addr) : Sp := fun vs H Q E => ∃ (a : Addr) (ns : List Int), vs = [.ref a] ∧ SqL K H a (iv ns) ∧ ns.length ≤ 90000 ∧ (calmF ns = true → ∀ H', Same H H' → Q (.str (tx (textF ns))) H') ∧ (calmF ns = false → ∀ H', Same H H' → E (.ref C) none H')
section
variable {P : Program} {w : World} {K : PySem.W.Frag} {mg : Str → Option Value} {base : Heap} {t : Adr}
theorem ok_refCalmE (T : Txt K mg t) (G_is_calm : FnOk P w K mg base CX0 3 t.a_is_calm t.d_is_calm ["row"] (sp_iscalm K)) : FnOk P w K mg base (CX1 P w) 4 t.a_refuse_if_not_calm t.d_refuse_if_not_calm ["row"] (sp_refCalmE K t.c_NotCalm) := by
  refine T.f_refuse_if_not_calm.fn.okE sc_refuse_if_not_calm (fun vs H Q E h => ?_) (fun cdv A outer s H vs Q E hr h => ?_)
  · obtain ⟨a, ns, rfl, _⟩ := h
    rfl
  obtain ⟨a, ns, rfl, hS, hl, q0, q1⟩ := h
  refine ⟨_, (pss_one (ps_if (pt_not (pt_val (pe_call G_is_calm (hr.mono (by decide)) rfl T.f_is_calm.mg T.f_is_calm.fn.kp T.f_is_calm.bd .nil pass0 (pa_cons (pv 0) pa_nil)))) (pss_one (ps_raise rais_cx rfl T.e_NotCalm rfl (pa_cons pe_str pa_nil))) pss_nil)), ?_⟩
  walk_at "sq"
  refine st_ifQ ⟨_, rfl, a, ns, rfl, hS, hl, fun H1 s1 => ⟨_, rfl, ?_⟩⟩
  cases hc : calmF ns
  · exact iteT ⟨small (by show 1 ≤ 1000; decide), q1 hc H1 s1⟩
  · exact iteF (q0 hc H1 s1)
theorem ok_shown (T : Txt K mg t) (G_refuse_if_not_calm : FnOk P w K mg base (CX1 P w) 4 t.a_refuse_if_not_calm t.d_refuse_if_not_calm ["row"] (sp_refCalmE K t.c_NotCalm)) :
    FnOk P w K mg base (CX1 P w) 5 t.a_shown t.d_shown ["row"] (sp_shown K t.c_NotCalm) := by
  refine T.f_shown.fn.okE sc_shown (fun vs H Q E h => ?_) (fun cdv A outer s H vs Q E hr h => ?_)
  · obtain ⟨a, ns, rfl, _⟩ := h
    rfl
  obtain ⟨a, ns, rfl, hS, hl, q0, q1⟩ := h
  refine ⟨_, (pss_cons (ps_expr (pe_call G_refuse_if_not_calm (hr.mono (by decide)) rfl T.f_refuse_if_not_calm.mg T.f_refuse_if_not_calm.fn.kp T.f_refuse_if_not_calm.bd .nil (pass1 fun _ _ _ z => z) (pa_cons (pv 0) pa_nil)))
    (pss_cons (ps_if (pt_cmpR op_eq (pe_callB call_len_seq rfl T.b_len PySem.boot_len (pa_cons (pv 0) pa_nil)) pe_int (nomark _)) (pss_one (ps_ret pe_str)) pss_nil)
    (pss_one (ps_ret (pe_bm PySem.F.plainAttrs_str PySem.F.slot_str_join PySem.F.type_str_join mt_join pe_str (pa_cons (pe_compF (Nt := ["figure"]) [] [] rfl rfl (by decide +kernel) (by decide +kernel) rfl (by decide +kernel) rfl (pi_rev rfl T.b_reversed (pa_cons (pv 0) pa_nil)) (fun _ _ _ _ _ => (pg_name (i := 0) (show List.Nodup ((["figure"] : List Str) ++ ([] : List Str) : List Str) by decide +kernel) rfl (Or.inl rfl))) (fun _ _ _ _ _ => (pe_ix ix_str (pe_globE rfl T.g_SIGNS) (pe_op op_add (pv 0) pe_int) (fun _ _ => rfl)))) pa_nil)))))), ?_⟩
  walk_at "sq"
  refine ⟨_, rfl, a, ns, rfl, hS, hl, fun hc H1 s1 => ?_, fun hc H1 s1 => q1 hc H1 s1⟩
  have S1 := s1.seq hS
  have qq := q0 hc
  have hall := calm_figs hc
  clear q0 q1
  walk_at "sq"
  refine st_if (b := decide ((((iv ns).length : Nat) : Int) = 0)) (by walk_at "pu") (fun e => ?_) (fun e => ?_)
  · have e0 : ns = [] := by
      have := of_decide_eq_true e
      rw [ints_len] at this
      exact List.length_eq_zero_iff.mp (by omega)
    subst e0
    walk_at "sq"
    exact st_ret (pu_cs zero_is) (qq H1 s1)
  · have e0 : ns ≠ [] := fun z => by rw [z] at e; cases e
    have et : textF ns = (ns.map cod).reverse := by unfold textF; rw [if_neg e0]
    rw [et] at qq
    walk_at "sq"
    refine ⟨rfl, _, rfl, a, _, rfl, S1, fun r hr0 => comp_rev (g := gName 0) (Q := fun x H1 => rJoin K (.str "") [x] H1 Q) (K := K) (a := a) (xs := iv ns) (fun i H2 => Same H1 H2 ∧ H2 r = some (.lst (sg1 ((ns.map cod).reverse.take i)))) ⟨same_new hr0 _, upd_same⟩ (fun i H2 _ h => h.1.seq S1) ?_ ?_⟩
    · rintro i x H2 hi hx ⟨sm, h2⟩
      obtain ⟨z, hz, rfl⟩ := ints_get hx
      rw [ints_len] at hi hz
      have hzf := hall z (List.mem_of_getElem? hz)
      have hn : (ns.map cod).reverse[i]? = some (cod z) := by
        rw [List.getElem?_reverse (by rw [List.length_map]; exact hi), List.length_map, List.getElem?_map, hz]
        rfl
      refine ⟨_, rfl, _, _, rfl, rfl, _, _, cod z, rfl, rfl, small (by decide), at4 hzf, _, h2, bigL (by rw [sg1_len, List.length_take]; omega), same_upd hr0 sm _, ?_⟩
      rw [upd_same, take_at hn]
      exact congrArg (fun l => some (HO.lst l)) (sg1_snoc _ _)
    · rintro H2 ⟨sm, h2⟩
      rw [ints_len, List.take_of_length_le (by simp)] at h2
      exact ⟨_, r, _, rfl, emp_cps, rfl, SqL.of h2, by simp; omega, qq H2 (s1.trans sm)⟩
end
noncomputable def NoInt (K : PySem.W.Frag) (H : Hp) (x : V) : Prop := (∃ b, x = .bl b) ∨ ∃ T, TyOf K H x (.type T) ∧ PySem.W.kitOne K (.type T) (.type "int") = some false
noncomputable def BadPl (K : PySem.W.Frag) (H : Hp) (x : V) : Prop := (∃ i : Int, x = .int i ∧ (i < 0 ∨ 399 < i)) ∨ NoInt K H x
theorem NoInt.same {K : PySem.W.Frag} {H H' : Hp} {x : V} (h : NoInt K H x) (s : Same H H') : NoInt K H' x := by
  rcases h with h | ⟨T, h, k⟩
  · exact .inl h
  · refine .inr ⟨T, ?_, k⟩
    cases h with
    | non => exact .non
    | bl b => exact .bl b
    | int i => exact .int i
    | str y => exact .str y
    | flt y => exact .flt y
    | lst e => exact .lst (s _ _ e)
    | frz e => exact .frz (s _ _ e)
    | tup e => exact .tup (s _ _ e)
    | dK e => exact .dK (s _ _ e)
    | dT e => exact .dT (s _ _ e)
theorem BadPl.same {K : PySem.W.Frag} {H H' : Hp} {x : V} (h : BadPl K H x) (s : Same H H') : BadPl K H' x := h.imp id fun h => h.same s
theorem kit_bool_int (K : PySem.W.Frag) : PySem.W.kitOne K (.type "bool") (.type "int") = some true := by
  have e1 : PySem.W.kitMeta "int" = true := by decide +kernel
  have e2 : (fastBuiltinMro "bool").map (·.contains (Value.type "int")) = some true := by decide +kernel
  show (if (Value.type "bool" == Value.type "int") = true then some true else if PySem.W.kitMeta "int" = true then PySem.W.subIn K (.type "bool") (.type "int") else none) = some true
  rw [if_neg (by decide +kernel), if_pos e1]
  exact e2
noncomputable def sp_noint (K : PySem.W.Frag) : Sp := fun vs H Q _ => ∃ x, vs = [x] ∧ NoInt K H x ∧ Q (.bl false) H
noncomputable def sp_noPlace (K : PySem.W.Frag) (C : Addr) : Sp := fun vs H _ E => ∃ x, vs = [x] ∧ BadPl K H x ∧ E (.ref C) none H
noncomputable def Ref (K : PySem.W.Frag) (H : Hp) (E : XK) (Cp Cc : Addr) (ns : List Int) (x : V) : Prop := (BadPl K H x ∧ E (.ref Cp) none H) ∨ ∃ p : Nat, x = .int (p : Nat) ∧ p ≤ 399 ∧ calmF ns = false ∧ ∀ H', Same H H' → E (.ref Cc) none H'
noncomputable def sp_chBad (K : PySem.W.Frag) (Cp Cc : Addr) : Sp := fun vs H _ E => ∃ (a : Addr) (ns : List Int) (x : V) (u : Bool), vs = [.ref a, x, .bl u] ∧ SqL K H a (iv ns) ∧ ns.length ≤ 90000 ∧ Ref K H E Cp Cc ns x
noncomputable def sp_deBad (K : PySem.W.Frag) (Cp Cc : Addr) : Sp := fun vs H _ E => ∃ (a : Addr) (ns : List Int) (x : V), vs = [.ref a, x] ∧ SqL K H a (iv ns) ∧ ns.length ≤ 90000 ∧ Ref K H E Cp Cc ns x
noncomputable def sp_settledE (K : PySem.W.Frag) (C : Addr) : Sp := fun vs H Q E => ∃ (a : Addr) (ns : List Int), vs = [.ref a] ∧ SqL K H a (iv ns) ∧ ns.length ≤ 90000 ∧ (calmF ns = true → ∀ v H', Same H H' → Q v H') ∧ (calmF ns = false → ∀ H', Same H H' → E (.ref C) none H')
noncomputable def sp_joBad (K : PySem.W.Frag) (C : Addr) : Sp := fun vs H _ E => ∃ (a b : Addr) (ns ms : List Int), vs = [.ref a, .ref b] ∧ SqL K H a (iv ns) ∧ SqL K H b (iv ms) ∧ ns.length ≤ 90000 ∧ ms.length ≤ 90000 ∧ (calmF ns = false ∨ calmF ms = false) ∧ ∀ H', Same H H' → E (.ref C) none H'
noncomputable def sp_caBad (K : PySem.W.Frag) (Cp : Addr) : Sp := fun vs H _ E => ∃ (p : Addr) (x : V) (u : Bool), vs = [.ref p, x, .bl u] ∧ BadPl K H x ∧ E (.ref Cp) none H
noncomputable def sp_cdBad (K : PySem.W.Frag) (C Cp : Addr) : Sp := fun vs H _ E => ∃ (p : Addr) (x : V), vs = [.ref p, x] ∧ (∃ dx fs, H p = some (.ins C dx fs) ∧ fs.lookup ("carry_out" : Str) = none) ∧ BadPl K H x ∧ E (.ref Cp) none H
noncomputable abbrev sor (a b : Sp) : Sp := fun vs H Q E => a vs H Q E ∨ b vs H Q E
section
variable {P : Program} {w : World} {K : PySem.W.Frag} {mg : Str → Option Value} {base : Heap} {t : Adr}
theorem ok_noint (T : Txt K mg t) : FnOk P w K mg base CX0 1 t.a_is_whole t.d_is_whole ["value"] (sp_noint K) := by
  refine T.f_is_whole.fn.ok sc_is_whole (fun vs H Q E h => ?_) (fun cdv A outer s H vs Q E hr h => ?_)
  · obtain ⟨x, rfl, _⟩ := h
    rfl
  obtain ⟨x, rfl, h, q⟩ := h
  refine ⟨_, (pss_one (ps_ret (pe_and (pe_callB call_isin rfl T.b_isinstance boot_isin (pa_cons (pv 0) (pa_cons (pe_bltn (v := .ty "int") rfl T.b_int PyProof.Rows.boot_int rfl) pa_nil))) (pe_one (pe_not (pe_callB call_isin rfl T.b_isinstance boot_isin (pa_cons (pv 0) (pa_cons (pe_bltn (v := .ty "bool") rfl T.b_bool PyProof.Rows.boot_bool rfl) pa_nil)))))))), ?_⟩
  rcases h with ⟨b, rfl⟩ | ⟨T', ty, k⟩
  · refine ⟨_, rfl, _, _, _, _, rfl, TyOf.bl _, kit_bool_int K, _, rfl, iteT ?_⟩
    exact ⟨_, rfl, _, _, _, _, rfl, TyOf.bl _, kit_bool_bool K, _, rfl, q⟩
  · exact ⟨_, rfl, _, _, _, _, rfl, ty, k, _, rfl, iteF q⟩
theorem ok_noPlace (T : Txt K mg t) (G_is_whole : FnOk P w K mg base CX0 1 t.a_is_whole t.d_is_whole ["value"] (sor sp_whole (sp_noint K))) : FnOk P w K mg base (CX1 P w) 2 t.a_refuse_if_no_place t.d_refuse_if_no_place ["place"] (sp_noPlace K t.c_NoPlace) := by
  refine T.f_refuse_if_no_place.fn.okE sc_refuse_if_no_place (fun vs H Q E h => ?_) (fun cdv A outer s H vs Q E hr h => ?_)
  · obtain ⟨x, rfl, _⟩ := h
    rfl
  obtain ⟨x, rfl, h, q⟩ := h
  refine ⟨_, (pss_one (ps_if (PW.pt (pw_or (pt_not (pt_val (pe_call G_is_whole (hr.mono (by decide)) rfl T.f_is_whole.mg T.f_is_whole.fn.kp T.f_is_whole.bd .nil pass0 (pa_cons (pv 0) pa_nil)))) (pw_or (pt_cmpR op_lt (pv 0) pe_int (nomark _)) (pw_or1 (pt_cmpR op_gt (pv 0) (pe_globE rfl T.g_LAST_PLACE) (nomark _)))))) (pss_one (ps_raise rais_cx rfl T.e_NoPlace rfl (pa_cons pe_str pa_nil))) pss_nil)), ?_⟩
  walk_at "sq"
  rcases h with ⟨i, rfl, hi⟩ | h
  · walk_at "sq"
    refine st_if (b := (!true) || (decide (i < 0) || decide (399 < i))) (pt_or' (pt_not' (pu_tB (pu_call (sp := sor sp_whole (sp_noint K)) (pu_cons (pu_var rfl) pu_nil) (fun Q q => .inl ⟨i, rfl, q⟩)))) (fun _ => pt_or' (by walk_at "pu") (fun _ => by walk_at "pu"))) (fun _ => ?_) (fun e => ?_)
    · exact ⟨small (by show 1 ≤ 1000; decide), q⟩
    · exfalso
      rcases hi with hi | hi <;> simp [hi] at e
  · walk_at "sq"
    refine st_if (b := (!false) || false) (pt_or' (pt_not' (pu_tB (pu_call (sp := sor sp_whole (sp_noint K)) (pu_cons (pu_var rfl) pu_nil) (fun Q q => .inr ⟨x, rfl, h, q⟩)))) (fun e => by cases e)) (fun _ => ?_) (fun e => by cases e)
    exact ⟨small (by show 1 ≤ 1000; decide), q⟩
theorem ok_chBad (T : Txt K mg t) (G_refuse_if_no_place : FnOk P w K mg base (CX1 P w) 2 t.a_refuse_if_no_place t.d_refuse_if_no_place ["place"] (sor sp_refPlace (sp_noPlace K t.c_NoPlace)))
    (G_refuse_if_not_calm : FnOk P w K mg base (CX1 P w) 4 t.a_refuse_if_not_calm t.d_refuse_if_not_calm ["row"] (sp_refCalmE K t.c_NotCalm))
    (G_step : FnOk P w K mg base CX0 5 t.a_step t.d_step ["row", "place", "up"] (sp_step K)) : FnOk P w K mg base (CX1 P w) 6 t.a_changes t.d_changes ["row", "place", "up"] (sp_chBad K t.c_NoPlace t.c_NotCalm) := by
  refine T.f_changes.fn.okE sc_changes (fun vs H Q E h => ?_) (fun cdv A outer s H vs Q E hr h => ?_)
  · obtain ⟨a, ns, x, u, rfl, _⟩ := h
    rfl
  obtain ⟨a, ns, x, u, rfl, hS, hl, h⟩ := h
  refine ⟨_, (pss_cons (ps_expr (pe_call G_refuse_if_no_place (hr.mono (by decide)) rfl T.f_refuse_if_no_place.mg T.f_refuse_if_no_place.fn.kp T.f_refuse_if_no_place.bd .nil (pass1 fun _ _ _ z => z) (pa_cons (pv 1) pa_nil)))
    (pss_cons (ps_expr (pe_call G_refuse_if_not_calm (hr.mono (by decide)) rfl T.f_refuse_if_not_calm.mg T.f_refuse_if_not_calm.fn.kp T.f_refuse_if_not_calm.bd .nil (pass1 fun _ _ _ z => z) (pa_cons (pv 0) pa_nil)))
    (pss_one (ps_ret (pe_call G_step (hr.mono (by decide)) rfl T.f_step.mg T.f_step.fn.kp T.f_step.bd .nil pass0 (pa_cons (pv 0) (pa_cons (pv 1) (pa_cons (pv 2) pa_nil)))))))), ?_⟩
  walk_at "sq"
  rcases h with ⟨hb, q⟩ | ⟨p, rfl, hp, hc, q⟩
  · exact ⟨_, rfl, .inr ⟨x, rfl, hb, q⟩⟩
  · refine ⟨_, rfl, .inl ⟨p, rfl, hp, ?_⟩⟩
    walk_at "sq"
    exact ⟨_, rfl, a, ns, rfl, hS, hl, fun z => (by rw [hc] at z; cases z), fun _ => q⟩
theorem ok_adBad (T : Txt K mg t) (G_put : FnOk P w K mg base CX0 1 t.a_put t.d_put ["row", "some"] (sp_put K)) (G_changes : FnOk P w K mg base (CX1 P w) 6 t.a_changes t.d_changes ["row", "place", "up"] (sp_chBad K t.c_NoPlace t.c_NotCalm)) :
    FnOk P w K mg base (CX1 P w) 7 t.a_added t.d_added ["row", "place"] (sp_deBad K t.c_NoPlace t.c_NotCalm) := by
  refine T.f_added.fn.okE sc_added (fun vs H Q E h => ?_) (fun cdv A outer s H vs Q E hr h => ?_)
  · obtain ⟨a, ns, x, rfl, _⟩ := h
    rfl
  obtain ⟨a, ns, x, rfl, hS, hl, h⟩ := h
  refine ⟨_, (pss_one (ps_ret (pe_call G_put (hr.mono (by decide)) rfl T.f_put.mg T.f_put.fn.kp T.f_put.bd .nil pass0 (pa_cons (pv 0) (pa_cons (pe_call G_changes (hr.mono (by decide)) rfl T.f_changes.mg T.f_changes.fn.kp T.f_changes.bd .nil (pass1 fun _ _ _ z => z) (pa_cons (pv 0) (pa_cons (pv 1) (pa_cons pe_bl pa_nil)))) pa_nil))))), ?_⟩
  exact ⟨_, rfl, _, rfl, _, rfl, a, ns, x, true, rfl, hS, hl, h⟩
theorem ok_taBad (T : Txt K mg t) (G_put : FnOk P w K mg base CX0 1 t.a_put t.d_put ["row", "some"] (sp_put K)) (G_changes : FnOk P w K mg base (CX1 P w) 6 t.a_changes t.d_changes ["row", "place", "up"] (sp_chBad K t.c_NoPlace t.c_NotCalm)) :
    FnOk P w K mg base (CX1 P w) 7 t.a_taken t.d_taken ["row", "place"] (sp_deBad K t.c_NoPlace t.c_NotCalm) := by
  refine T.f_taken.fn.okE sc_taken (fun vs H Q E h => ?_) (fun cdv A outer s H vs Q E hr h => ?_)
  · obtain ⟨a, ns, x, rfl, _⟩ := h
    rfl
  obtain ⟨a, ns, x, rfl, hS, hl, h⟩ := h
  refine ⟨_, (pss_one (ps_ret (pe_call G_put (hr.mono (by decide)) rfl T.f_put.mg T.f_put.fn.kp T.f_put.bd .nil pass0 (pa_cons (pv 0) (pa_cons (pe_call G_changes (hr.mono (by decide)) rfl T.f_changes.mg T.f_changes.fn.kp T.f_changes.bd .nil (pass1 fun _ _ _ z => z) (pa_cons (pv 0) (pa_cons (pv 1) (pa_cons pe_bl pa_nil)))) pa_nil))))), ?_⟩
  exact ⟨_, rfl, _, rfl, _, rfl, a, ns, x, false, rfl, hS, hl, h⟩
theorem ok_settledE (T : Txt K mg t) (G_refuse_if_not_calm : FnOk P w K mg base (CX1 P w) 4 t.a_refuse_if_not_calm t.d_refuse_if_not_calm ["row"] (sp_refCalmE K t.c_NotCalm)) :
    FnOk P w K mg base (CX1 P w) 5 t.a_settled t.d_settled ["row"] (sp_settledE K t.c_NotCalm) := by
  refine T.f_settled.fn.okE sc_settled (fun vs H Q E h => ?_) (fun cdv A outer s H vs Q E hr h => ?_)
  · obtain ⟨a, ns, rfl, _⟩ := h
    rfl
  obtain ⟨a, ns, rfl, hS, hl, q0, q1⟩ := h
  refine ⟨_, (pss_cons (ps_expr (pe_call G_refuse_if_not_calm (hr.mono (by decide)) rfl T.f_refuse_if_not_calm.mg T.f_refuse_if_not_calm.fn.kp T.f_refuse_if_not_calm.bd .nil (pass1 fun _ _ _ z => z) (pa_cons (pv 0) pa_nil)))
    (pss_cons (ps_set (i := 1) sc_settled.nd rfl (Or.inl rfl) pe_int)
    (pss_cons (ps_set (i := 2) sc_settled.nd rfl (Or.inl rfl) (pe_callB call_len_seq rfl T.b_len PySem.boot_len (pa_cons (pv 0) pa_nil)))
    (pss_cons (ps_for own_loops rfl (pi_rev rfl T.b_reversed (pa_cons (pv 0) pa_nil)) (pg_name (i := 3) sc_settled.nd rfl (Or.inl rfl)) (pss_cons (ps_set (i := 1) sc_settled.nd rfl (Or.inl rfl) (pe_op op_add (pe_op op_mul pe_int (pv 1)) (pv 3)))
    (pss_cons (ps_set (i := 2) sc_settled.nd rfl (Or.inl rfl) (pe_op op_sub (pv 2) pe_int))
    (pss_cons (ps_if (pt_cmpR op_gt (pv 1) pe_int (nomark _)) (pss_one (ps_ret (pe_tup (pa_cons pe_int (pa_cons (pv 2) pa_nil))))) pss_nil)
    (pss_one (ps_if (pt_cmpR op_lt (pv 1) (pe_un un_neg pe_int) (nomark _)) (pss_one (ps_ret (pe_tup (pa_cons (pe_un un_neg pe_int) (pa_cons (pv 2) pa_nil))))) pss_nil))))))
    (pss_one (ps_ret (pe_tup (pa_cons (pv 1) (pa_cons pe_int pa_nil))))))))), ?_⟩
  walk_at "sq"
  refine ⟨_, rfl, a, ns, rfl, hS, hl, fun hc H1 s1 => ?_, q1⟩
  have hS1 := s1.seq hS
  have hq : ∀ v H', Same H1 H' → Q v H' := fun v H' s => q0 hc v H' (s1.trans s)
  clear q0 q1
  walk_at "sq"
  refine st_set (v := .int 0) (by walk_at "pu") ?_
  walk_at "sq"
  refine st_set (by walk_at "pu") ?_
  walk_at "sq"
  refine st_for_rev (K := K) (a := a) (xs := iv ns) (by walk_at "pu") hS1 (fun i σ H2 => H2 = H1 ∧ ∃ (f : Option V) (tt uu : Int), σ = [some (.ref a), some (.int tt), some (.int uu), f])
    ⟨rfl, none, 0, _, rfl⟩ (fun i σ H2 _ ⟨e, _⟩ => by rw [e]; exact hS1) ?_ ?_
  · rintro i x σ H2 hi hx ⟨rfl, f, tt, uu, rfl⟩
    obtain ⟨z, hz, rfl⟩ := ints_get hx
    walk_at "sq"
    refine st_set (by walk_at "pu") ?_
    walk_at "sq"
    refine st_set (by walk_at "pu") ?_
    walk_at "sq"
    refine st_if (by walk_at "pu") (fun e => ?_) (fun e => ?_)
    · exact ⟨_, rfl, (by show 2 ≤ sizeLine; decide), fun p hpn => hq _ _ (same_new hpn _)⟩
    · walk_at "sq"
      refine st_if (by walk_at "pu") (fun e2 => ?_) (fun e2 => ?_)
      · exact ⟨_, rfl, _, rfl, (by show 2 ≤ sizeLine; decide), fun p hpn => hq _ _ (same_new hpn _)⟩
      · exact ⟨rfl, _, _, _, rfl⟩
  · rintro σ H2 ⟨rfl, f, tt, uu, rfl⟩
    walk_at "sq"
    exact ⟨_, rfl, (by show 2 ≤ sizeLine; decide), fun p hpn => hq _ _ (same_new hpn _)⟩
theorem ok_joBad (T : Txt K mg t) (G_refuse_if_not_calm : FnOk P w K mg base (CX1 P w) 4 t.a_refuse_if_not_calm t.d_refuse_if_not_calm ["row"] (sp_refCalmE K t.c_NotCalm))
    (G_put : FnOk P w K mg base CX0 1 t.a_put t.d_put ["row", "some"] (sp_put K)) (G_step : FnOk P w K mg base CX0 5 t.a_step t.d_step ["row", "place", "up"] (sp_step K)) : FnOk P w K mg base (CX1 P w) 6 t.a_joined t.d_joined ["one", "other"] (sp_joBad K t.c_NotCalm) := by
  refine T.f_joined.fn.okE sc_joined (fun vs H Q E h => ?_) (fun cdv A outer s H vs Q E hr h => ?_)
  · obtain ⟨a, b, ns, ms, rfl, _⟩ := h
    rfl
  obtain ⟨a, b, ns, ms, rfl, hS, hB, hl, hm, hc, q⟩ := h
  refine ⟨_, (pss_cons (ps_expr (pe_call G_refuse_if_not_calm (hr.mono (by decide)) rfl T.f_refuse_if_not_calm.mg T.f_refuse_if_not_calm.fn.kp T.f_refuse_if_not_calm.bd .nil (pass1 fun _ _ _ z => z) (pa_cons (pv 0) pa_nil)))
    (pss_cons (ps_expr (pe_call G_refuse_if_not_calm (hr.mono (by decide)) rfl T.f_refuse_if_not_calm.mg T.f_refuse_if_not_calm.fn.kp T.f_refuse_if_not_calm.bd .nil (pass1 fun _ _ _ z => z) (pa_cons (pv 1) pa_nil)))
    (pss_cons (ps_set (i := 2) sc_joined.nd rfl (Or.inl rfl) (pe_callTy call_list_of rfl T.b_list PyProof.Rows.boot_list (pa_cons (pv 0) pa_nil)))
    (pss_cons (ps_for own_loops rfl (pi_enum rfl T.b_enumerate (pa_cons (pv 1) pa_nil)) (pg_tup rfl (pgs_cons (pg_name (i := 3) sc_joined.nd rfl (Or.inl rfl)) (pgs_cons (pg_name (i := 4) sc_joined.nd rfl (Or.inl rfl)) pgs_nil))) (pss_one (ps_for own_loops rfl (pi_range1 rfl T.b_range (pa_cons (pe_callB call_abs rfl T.b_abs PyProof.Rows.boot_abs (pa_cons (pv 4) pa_nil)) pa_nil)) (pg_name (i := 5) sc_joined.nd rfl (Or.inl rfl)) (pss_one (ps_set (i := 2) sc_joined.nd rfl (Or.inl rfl) (pe_call G_put (hr.mono (by decide)) rfl T.f_put.mg T.f_put.fn.kp T.f_put.bd .nil pass0 (pa_cons (pv 2) (pa_cons (pe_call G_step (hr.mono (by decide)) rfl T.f_step.mg T.f_step.fn.kp T.f_step.bd .nil pass0 (pa_cons (pv 2) (pa_cons (pv 3) (pa_cons (pe_cmpR op_gt (pv 4) pe_int (nomark _)) pa_nil)))) pa_nil))))))))
    (pss_one (ps_ret (pv 2))))))), ?_⟩
  walk_at "sq"
  refine ⟨_, rfl, a, ns, rfl, hS, hl, fun hn H1 s1 => ?_, fun _ => q⟩
  walk_at "sq"
  refine ⟨_, rfl, b, ms, rfl, s1.seq hB, hm, fun hm' => ?_, fun _ H2 s2 => q H2 (s1.trans s2)⟩
  rcases hc with hc | hc
  · rw [hn] at hc; cases hc
  · rw [hm'] at hc; cases hc
theorem ok_caBad (T : Txt K mg t) (G_refuse_if_no_place : FnOk P w K mg base (CX1 P w) 2 t.a_refuse_if_no_place t.d_refuse_if_no_place ["place"] (sp_noPlace K t.c_NoPlace)) (G_put : FnOk P w K mg base CX0 1 t.a_put t.d_put ["row", "some"] (sp_put K))
    (G_step : FnOk P w K mg base CX0 5 t.a_step t.d_step ["row", "place", "up"] (sp_step K)) : FnOk P w K mg base (CX1 P w) 6 t.a_Counter_carry_out t.d_Counter_carry_out ["self", "place", "up"] (sp_caBad K t.c_NoPlace) := by
  refine T.f_Counter_carry_out.fn.okE sc_Counter_carry_out (fun vs H Q E h => ?_) (fun cdv A outer s H vs Q E hr h => ?_)
  · obtain ⟨p, x, u, rfl, _⟩ := h
    rfl
  obtain ⟨p, x, u, rfl, hb, q⟩ := h
  refine ⟨_, (pss_cons (ps_expr (pe_call G_refuse_if_no_place (hr.mono (by decide)) rfl T.f_refuse_if_no_place.mg T.f_refuse_if_no_place.fn.kp T.f_refuse_if_no_place.bd .nil (pass1 fun _ _ _ z => z) (pa_cons (pv 1) pa_nil)))
    (pss_cons (ps_set (i := 3) sc_Counter_carry_out.nd rfl (Or.inl rfl) (pe_call G_step (hr.mono (by decide)) rfl T.f_step.mg T.f_step.fn.kp T.f_step.bd .nil pass0 (pa_cons (pe_fld (pv 0) rfl) (pa_cons (pv 1) (pa_cons (pv 2) pa_nil)))))
    (pss_cons (ps_fld (pv 0) (pe_call G_put (hr.mono (by decide)) rfl T.f_put.mg T.f_put.fn.kp T.f_put.bd .nil pass0 (pa_cons (pe_fld (pv 0) rfl) (pa_cons (pv 3) pa_nil))) rfl)
    (pss_cons (ps_expr (pe_bm PySem.F.plainAttrs_list PySem.F.slot_list_append PySem.F.type_list_append mt_append (pe_fld (pv 0) rfl) (pa_cons (pv 3) pa_nil)))
    (pss_one (ps_ret (pe_callTy call_list_of rfl T.b_list PyProof.Rows.boot_list (pa_cons (pv 3) pa_nil)))))))), ?_⟩
  walk_at "sq"
  exact ⟨_, rfl, x, rfl, hb, q⟩
theorem ok_caddBad (T : Txt K mg t) (G_Counter_carry_out : FnOk P w K mg base (CX1 P w) 6 t.a_Counter_carry_out t.d_Counter_carry_out ["self", "place", "up"] (sp_caBad K t.c_NoPlace)) :
    FnOk P w K mg base (CX1 P w) 7 t.a_Counter_add t.d_Counter_add ["self", "place"] (sp_cdBad K t.c_own t.c_NoPlace) := by
  refine T.f_Counter_add.fn.okE sc_Counter_add (fun vs H Q E h => ?_) (fun cdv A outer s H vs Q E hr h => ?_)
  · obtain ⟨p, x, rfl, _⟩ := h
    rfl
  obtain ⟨p, x, rfl, ⟨dx, fs, h1, h2⟩, hb, q⟩ := h
  refine ⟨_, (pss_one (ps_ret (pe_meth (pv 0) T.cl_own T.m_carry_out G_Counter_carry_out (hr.mono (by decide)) T.f_Counter_carry_out.bd .nil (pass1 fun _ _ _ z => z) (pa_cons (pv 1) (pa_cons pe_bl pa_nil))))), ?_⟩
  exact ⟨_, rfl, p, dx, fs, rfl, h1, h2, _, rfl, p, x, true, rfl, hb, q⟩
theorem ok_ctakeBad (T : Txt K mg t) (G_Counter_carry_out : FnOk P w K mg base (CX1 P w) 6 t.a_Counter_carry_out t.d_Counter_carry_out ["self", "place", "up"] (sp_caBad K t.c_NoPlace)) :
    FnOk P w K mg base (CX1 P w) 7 t.a_Counter_take t.d_Counter_take ["self", "place"] (sp_cdBad K t.c_own t.c_NoPlace) := by
  refine T.f_Counter_take.fn.okE sc_Counter_take (fun vs H Q E h => ?_) (fun cdv A outer s H vs Q E hr h => ?_)
  · obtain ⟨p, x, rfl, _⟩ := h
    rfl
  obtain ⟨p, x, rfl, ⟨dx, fs, h1, h2⟩, hb, q⟩ := h
  refine ⟨_, (pss_one (ps_ret (pe_meth (pv 0) T.cl_own T.m_carry_out G_Counter_carry_out (hr.mono (by decide)) T.f_Counter_carry_out.bd .nil (pass1 fun _ _ _ z => z) (pa_cons (pv 1) (pa_cons pe_bl pa_nil))))), ?_⟩
  exact ⟨_, rfl, p, dx, fs, rfl, h1, h2, _, rfl, p, x, false, rfl, hb, q⟩
end
theorem tn_ {σ : St} {H : Hp} {Q : List V → Hp → Prop} (h : Q [] H) : tNil σ H Q := h
noncomputable abbrev bv (bs : List Bool) : List V := bs.map V.bl
noncomputable def sp_kinds (K : PySem.W.Frag) (t : Adr) : SpS := fun vs H Q => ∃ (e C : Addr) (b1 b2 b3 : Bool), vs = [.ref e] ∧ H e = some (excO e (.ref C)) ∧ Exi K C ∧ PySem.W.kitOne K (.ref C) (.type "ValueError") = some true ∧ PySem.W.kitOne K (.ref C) (.ref t.c_NotCalm) = some b1 ∧
  PySem.W.kitOne K (.ref C) (.ref t.c_NoPlace) = some b2 ∧ PySem.W.kitOne K (.ref C) (.ref t.c_NothingDone) = some b3 ∧ PySem.W.kitOne K (.ref C) (.ref t.c_NoText) = some false ∧
  ∀ l H', H l = none → Same H H' → H' l = some (.lst (bv [true, b1, b2, b3, false])) → Q (.ref l) H'
noncomputable def Pl (K : PySem.W.Frag) (H : Hp) (x : V) (g : Bool) : Prop := (g = true ∧ ∃ p : Nat, x = .int (p : Nat) ∧ p ≤ 399) ∨ (g = false ∧ BadPl K H x)
theorem Pl.same {K : PySem.W.Frag} {H H' : Hp} {x : V} {g : Bool} (h : Pl K H x g) (s : Same H H') : Pl K H' x g := h.imp id fun ⟨e, b⟩ => ⟨e, b.same s⟩
noncomputable def toldF (k : Int) (g : Bool) (ns : List Int) : List Bool := if k < 5 ∧ g = false then [true, false, true, false, false] else if calmF ns = true then [] else [true, true, false, false, false]
noncomputable def sp_asked (K : PySem.W.Frag) (t : Adr) : Sp := fun vs H Q E => ∃ (k : Int) (a : Addr) (ns : List Int) (x : V) (g : Bool), vs = [.int k, .ref a, x] ∧ 0 ≤ k ∧ k ≤ 9 ∧ H a = some (.lst (iv ns)) ∧ ns.length ≤ 300 ∧ Pl K H x g ∧
  (k < 5 ∧ g = false → ∀ H', Same H H' → E (.ref t.c_NoPlace) none H') ∧ (¬ (k < 5 ∧ g = false) → calmF ns = false → ∀ H', Same H H' → E (.ref t.c_NotCalm) none H') ∧ (¬ (k < 5 ∧ g = false) → calmF ns = true → ∀ v H', Same H H' → Q v H')
noncomputable def sp_told (K : PySem.W.Frag) : Sp := fun vs H Q _ => ∃ (k : Int) (a : Addr) (ns : List Int) (x : V) (g : Bool), vs = [.int k, .ref a, x] ∧ 0 ≤ k ∧ k ≤ 9 ∧ H a = some (.lst (iv ns)) ∧ ns.length ≤ 300 ∧ Pl K H x g ∧
  ∀ l H', H l = none → Same H H' → H' l = some (.lst (bv (toldF k g ns))) → Q (.ref l) H'
noncomputable def sp_all (K : PySem.W.Frag) : Sp := fun vs H Q _ => ∃ (a : Addr) (ns : List Int) (x : V) (g : Bool), vs = [.ref a, x, .bl g] ∧ H a = some (.lst (iv ns)) ∧ ns.length ≤ 300 ∧ Pl K H x g ∧ ∀ H', Same H H' → Q (.bl true) H'
section
variable {P : Program} {w : World} {K : PySem.W.Frag} {mg : Str → Option Value} {base : Heap} {t : Adr}
theorem ok_kinds (T : Txt K mg t) : FnOkS P w K mg base 1 t.a_law_kinds t.d_law_kinds ["_law_e"] (sp_kinds K t) := by
  refine T.f_law_kinds.fn.okS sc_law_kinds (fun vs H Q h => ?_) (fun cdv A outer s H vs Q h => ?_)
  · obtain ⟨e, C, b1, b2, b3, rfl, _⟩ := h
    rfl
  obtain ⟨e, C, b1, b2, b3, rfl, he, x, k0, k1, k2, k3, k4, q⟩ := h
  refine ⟨_, (pss_one (ps_ret (pe_op op_cat (pe_lst (pa_cons (pe_callB (call_isinEK (K := K) rfl) rfl T.b_isinstance boot_isin (pa_cons (pv 0) (pa_cons (pe_bltn (v := .ty "ValueError") rfl T.b_ValueError PyProof.Rows.Boot.«ValueError» rfl) pa_nil))) (pa_cons (pe_callB (call_isinEK (K := K) rfl) rfl T.b_isinstance boot_isin (pa_cons (pv 0) (pa_cons (pe_glob (v := .ref t.c_NotCalm) rfl T.e_NotCalm.gl rfl) pa_nil))) (pa_cons (pe_callB (call_isinEK (K := K) rfl) rfl T.b_isinstance boot_isin (pa_cons (pv 0) (pa_cons (pe_glob (v := .ref t.c_NoPlace) rfl T.e_NoPlace.gl rfl) pa_nil))) pa_nil)))) (pe_lst (pa_cons (pe_callB (call_isinEK (K := K) rfl) rfl T.b_isinstance boot_isin (pa_cons (pv 0) (pa_cons (pe_glob (v := .ref t.c_NothingDone) rfl T.e_NothingDone.gl rfl) pa_nil))) (pa_cons (pe_callB (call_isinEK (K := K) rfl) rfl T.b_isinstance boot_isin (pa_cons (pv 0) (pa_cons (pe_glob (v := .ref t.c_NoText) rfl T.e_NoText.gl rfl) pa_nil))) pa_nil)))))), ?_⟩
  have pa : ∀ {H : Hp} (_ : H e = some (excO e (.ref C))), PuA (σ := [some (.ref e)]) (H := H) _ [V.bl true, V.bl b1, V.bl b2] := fun {H} he => pu_cons (pu_isT (i := 0) rfl he x k0) (pu_cons (pu_isE (i := 0) rfl he x k1) (pu_cons (pu_isE (i := 0) rfl he x k2) pu_nil))
  have pb : ∀ {H : Hp} (_ : H e = some (excO e (.ref C))), PuA (σ := [some (.ref e)]) (H := H) _ [V.bl b3, V.bl false] := fun {H} he => pu_cons (pu_isE (i := 0) rfl he x k3) (pu_cons (pu_isE (i := 0) rfl he x k4) pu_nil)
  walk_at "sq"
  exact st_rete (te_cat2 (pa he) (fun H1 s1 => pb (s1 _ _ he)) (by show 3 + 2 ≤ 1000; decide) q)
theorem ask_ch {H : Hp} {Q : VK} {E : XK} {Cp Cc a : Addr} {ns : List Int} {x : V} {g u : Bool} (hS : SqL K H a (iv ns)) (hl : ns.length ≤ 300) (hP : Pl K H x g) (q0 : g = false → ∀ H', Same H H' → E (.ref Cp) none H') (q1 : g = true → calmF ns = false → ∀ H', Same H H' → E (.ref Cc) none H')
    (q2 : g = true → calmF ns = true → ∀ v H', Same H H' → Q v H') : sor (sp_changes K) (sp_chBad K Cp Cc) [.ref a, x, .bl u] H Q E := by
  rcases hP with ⟨rfl, p, rfl, hp⟩ | ⟨rfl, hb⟩
  · cases hc : calmF ns
    · exact .inr ⟨a, ns, _, u, rfl, hS, by omega, .inr ⟨p, rfl, hp, hc, q1 rfl hc⟩⟩
    · exact .inl ⟨a, ns, p, u, rfl, hS, by omega, hc, hp, fun r H' nr s h => q2 rfl hc _ _ s⟩
  · exact .inr ⟨a, ns, x, u, rfl, hS, by omega, .inl ⟨hb, q0 rfl H (Same.refl _)⟩⟩
theorem ask_de {H : Hp} {Q : VK} {E : XK} {Cp Cc a : Addr} {ns : List Int} {x : V} {g : Bool} {r : Int} (hS : SqL K H a (iv ns)) (hl : ns.length ≤ 300) (hP : Pl K H x g) (q0 : g = false → ∀ H', Same H H' → E (.ref Cp) none H') (q1 : g = true → calmF ns = false → ∀ H', Same H H' → E (.ref Cc) none H')
    (q2 : g = true → calmF ns = true → ∀ v H', Same H H' → Q v H') : sor (sp_deed K r) (sp_deBad K Cp Cc) [.ref a, x] H Q E := by
  rcases hP with ⟨rfl, p, rfl, hp⟩ | ⟨rfl, hb⟩
  · cases hc : calmF ns
    · exact .inr ⟨a, ns, _, rfl, hS, by omega, .inr ⟨p, rfl, hp, hc, q1 rfl hc⟩⟩
    · exact .inl ⟨a, ns, p, rfl, hS, by omega, hc, hp, fun r H' nr s h => q2 rfl hc _ _ s⟩
  · exact .inr ⟨a, ns, x, rfl, hS, by omega, .inl ⟨hb, q0 rfl H (Same.refl _)⟩⟩
theorem ask_jo {H : Hp} {Q : VK} {E : XK} {C a b : Addr} {ns ms : List Int} (hS : SqL K H a (iv ns)) (hB : SqL K H b (iv ms)) (hl : ns.length ≤ 300) (hm : ms.length ≤ 300) (q1 : calmF ns = false ∨ calmF ms = false → ∀ H', Same H H' → E (.ref C) none H')
    (q2 : calmF ns = true → calmF ms = true → ∀ v H', Same H H' → Q v H') : sor (sp_joined K) (sp_joBad K C) [.ref a, .ref b] H Q E := by
  cases hc : calmF ns
  · exact .inr ⟨a, b, ns, ms, rfl, hS, hB, by omega, by omega, .inl hc, q1 (.inl hc)⟩
  · cases hd : calmF ms
    · exact .inr ⟨a, b, ns, ms, rfl, hS, hB, by omega, by omega, .inr hd, q1 (.inr hd)⟩
    · exact .inl ⟨a, b, ns, ms, rfl, hS, hB, by omega, by omega, hc, hd, fun c H' nc s h => q2 hc hd _ _ s⟩
theorem ok_asked (T : Txt K mg t) (G_changes : FnOk P w K mg base (CX1 P w) 6 t.a_changes t.d_changes ["row", "place", "up"] (sor (sp_changes K) (sp_chBad K t.c_NoPlace t.c_NotCalm)))
    (G_added : FnOk P w K mg base (CX1 P w) 7 t.a_added t.d_added ["row", "place"] (sor (sp_deed K 1) (sp_deBad K t.c_NoPlace t.c_NotCalm))) (G_taken : FnOk P w K mg base (CX1 P w) 7 t.a_taken t.d_taken ["row", "place"] (sor (sp_deed K 0) (sp_deBad K t.c_NoPlace t.c_NotCalm)))
    (G_settled : FnOk P w K mg base (CX1 P w) 5 t.a_settled t.d_settled ["row"] (sp_settledE K t.c_NotCalm)) (G_shown : FnOk P w K mg base (CX1 P w) 5 t.a_shown t.d_shown ["row"] (sp_shown K t.c_NotCalm))
    (G_joined : FnOk P w K mg base (CX1 P w) 6 t.a_joined t.d_joined ["one", "other"] (sor (sp_joined K) (sp_joBad K t.c_NotCalm))) :
    FnOk P w K mg base (CX1 P w) 8 t.a_law_asked t.d_law_asked ["_law_way", "_law_row", "_law_place_here"] (sp_asked K t) := by
  refine T.f_law_asked.fn.okE sc_law_asked (fun vs H Q E h => ?_) (fun cdv A outer s H vs Q E hr h => ?_)
  · obtain ⟨k, a, ns, x, g, rfl, _⟩ := h
    rfl
  obtain ⟨k, a, ns, x, g, rfl, h0, h9, ha, hl, hP, q0, q1, q2⟩ := h
  have hS : SqL K H a (iv ns) := SqL.of ha
  refine ⟨_, (pss_cons (ps_if (pt_cmpR op_eq (pv 0) pe_int (nomark _)) (pss_one (ps_ret (pe_call G_changes (hr.mono (by decide)) rfl T.f_changes.mg T.f_changes.fn.kp T.f_changes.bd1 dv_true (pass1 fun _ _ _ z => z) (pa_cons (pv 1) (pa_cons (pv 2) pa_nil))))) pss_nil)
    (pss_cons (ps_if (pt_cmpR op_eq (pv 0) pe_int (nomark _)) (pss_one (ps_ret (pe_call G_changes (hr.mono (by decide)) rfl T.f_changes.mg T.f_changes.fn.kp T.f_changes.bd .nil (pass1 fun _ _ _ z => z) (pa_cons (pv 1) (pa_cons (pv 2) (pa_cons pe_bl pa_nil)))))) pss_nil)
    (pss_cons (ps_if (pt_cmpR op_eq (pv 0) pe_int (nomark _)) (pss_one (ps_ret (pe_call G_changes (hr.mono (by decide)) rfl T.f_changes.mg T.f_changes.fn.kp T.f_changes.bd .nil (pass1 fun _ _ _ z => z) (pa_cons (pv 1) (pa_cons (pv 2) (pa_cons pe_bl pa_nil)))))) pss_nil)
    (pss_cons (ps_if (pt_cmpR op_eq (pv 0) pe_int (nomark _)) (pss_one (ps_ret (pe_call G_added (hr.mono (by decide)) rfl T.f_added.mg T.f_added.fn.kp T.f_added.bd .nil (pass1 fun _ _ _ z => z) (pa_cons (pv 1) (pa_cons (pv 2) pa_nil))))) pss_nil)
    (pss_cons (ps_if (pt_cmpR op_eq (pv 0) pe_int (nomark _)) (pss_one (ps_ret (pe_call G_taken (hr.mono (by decide)) rfl T.f_taken.mg T.f_taken.fn.kp T.f_taken.bd .nil (pass1 fun _ _ _ z => z) (pa_cons (pv 1) (pa_cons (pv 2) pa_nil))))) pss_nil)
    (pss_cons (ps_if (pt_cmpR op_eq (pv 0) pe_int (nomark _)) (pss_one (ps_ret (pe_call G_settled (hr.mono (by decide)) rfl T.f_settled.mg T.f_settled.fn.kp T.f_settled.bd .nil (pass1 fun _ _ _ z => z) (pa_cons (pv 1) pa_nil)))) pss_nil)
    (pss_cons (ps_if (pt_cmpR op_eq (pv 0) pe_int (nomark _)) (pss_one (ps_ret (pe_call G_shown (hr.mono (by decide)) rfl T.f_shown.mg T.f_shown.fn.kp T.f_shown.bd .nil (pass1 fun _ _ _ z => z) (pa_cons (pv 1) pa_nil)))) pss_nil)
    (pss_cons (ps_if (pt_cmpR op_eq (pv 0) pe_int (nomark _)) (pss_one (ps_ret (pe_call G_joined (hr.mono (by decide)) rfl T.f_joined.mg T.f_joined.fn.kp T.f_joined.bd .nil (pass1 fun _ _ _ z => z) (pa_cons (pv 1) (pa_cons (pe_lst (pa_cons pe_int pa_nil)) pa_nil))))) pss_nil)
    (pss_cons (ps_if (pt_cmpR op_eq (pv 0) pe_int (nomark _)) (pss_one (ps_ret (pe_call G_joined (hr.mono (by decide)) rfl T.f_joined.mg T.f_joined.fn.kp T.f_joined.bd .nil (pass1 fun _ _ _ z => z) (pa_cons (pe_lst (pa_cons pe_int (pa_cons pe_int pa_nil))) (pa_cons (pv 1) pa_nil))))) pss_nil)
    (pss_one (ps_ret (pe_call G_joined (hr.mono (by decide)) rfl T.f_joined.mg T.f_joined.fn.kp T.f_joined.bd .nil (pass1 fun _ _ _ z => z) (pa_cons (pv 1) (pa_cons (pv 1) pa_nil)))))))))))))), ?_⟩
  have lo : ∀ j : Int, k = j → j < 5 → (g = false → ∀ H', Same H H' → E (.ref t.c_NoPlace) none H') ∧ (g = true → calmF ns = false → ∀ H', Same H H' → E (.ref t.c_NotCalm) none H') ∧ (g = true → calmF ns = true → ∀ v H', Same H H' → Q v H') := fun j e hj =>
    ⟨fun z => q0 ⟨by omega, z⟩, fun z => q1 (fun y => by rw [z] at y; cases y.2), fun z => q2 (fun y => by rw [z] at y; cases y.2)⟩
  walk_at "sq"
  refine st_if (b := decide (k = 0)) (by walk_at "pu") (fun e => ?_) (fun e0 => ?_)
  · obtain ⟨r0, r1, r2⟩ := lo 0 (of_decide_eq_true e) (by decide)
    exact ⟨_, rfl, _, rfl, ask_ch hS hl hP r0 r1 r2⟩
  walk_at "sq"
  refine st_if (b := decide (k = 1)) (by walk_at "pu") (fun e => ?_) (fun e1 => ?_)
  · obtain ⟨r0, r1, r2⟩ := lo 1 (of_decide_eq_true e) (by decide)
    exact ⟨_, rfl, _, rfl, ask_ch hS hl hP r0 r1 r2⟩
  walk_at "sq"
  refine st_if (b := decide (k = 2)) (by walk_at "pu") (fun e => ?_) (fun e2 => ?_)
  · obtain ⟨r0, r1, r2⟩ := lo 2 (of_decide_eq_true e) (by decide)
    exact ⟨_, rfl, _, rfl, ask_ch hS hl hP r0 r1 r2⟩
  walk_at "sq"
  refine st_if (b := decide (k = 3)) (by walk_at "pu") (fun e => ?_) (fun e3 => ?_)
  · obtain ⟨r0, r1, r2⟩ := lo 3 (of_decide_eq_true e) (by decide)
    exact ⟨_, rfl, _, rfl, ask_de hS hl hP r0 r1 r2⟩
  walk_at "sq"
  refine st_if (b := decide (k = 4)) (by walk_at "pu") (fun e => ?_) (fun e4 => ?_)
  · obtain ⟨r0, r1, r2⟩ := lo 4 (of_decide_eq_true e) (by decide)
    exact ⟨_, rfl, _, rfl, ask_de hS hl hP r0 r1 r2⟩
  have hi : ∀ j : Int, k = j → 5 ≤ j → (calmF ns = false → ∀ H', Same H H' → E (.ref t.c_NotCalm) none H') ∧ (calmF ns = true → ∀ v H', Same H H' → Q v H') := fun j e hj => ⟨q1 (fun y => by omega), q2 (fun y => by omega)⟩
  clear lo
  walk_at "sq"
  refine st_if (b := decide (k = 5)) (by walk_at "pu") (fun e => ?_) (fun e5 => ?_)
  · obtain ⟨r1, r2⟩ := hi 5 (of_decide_eq_true e) (by decide)
    exact ⟨_, rfl, a, ns, rfl, hS, by omega, r2, r1⟩
  walk_at "sq"
  refine st_if (b := decide (k = 6)) (by walk_at "pu") (fun e => ?_) (fun e6 => ?_)
  · obtain ⟨r1, r2⟩ := hi 6 (of_decide_eq_true e) (by decide)
    exact ⟨_, rfl, a, ns, rfl, hS, by omega, fun hc => r2 hc _, r1⟩
  walk_at "sq"
  refine st_if (b := decide (k = 7)) (by walk_at "pu") (fun e => ?_) (fun e7 => ?_)
  · obtain ⟨r1, r2⟩ := hi 7 (of_decide_eq_true e) (by decide)
    refine ⟨_, rfl, small (by show 1 ≤ 1000; decide), fun l nl => ?_⟩
    have s1 := same_new nl (.lst [V.int 1])
    exact ask_jo (ms := [1]) (s1.seq hS) (SqL.of upd_same) hl (by decide) (fun z H' s => r1 (z.resolve_right (by decide)) H' (s1.trans s)) (fun z _ v H' s => r2 z v H' (s1.trans s))
  walk_at "sq"
  refine st_if (b := decide (k = 8)) (by walk_at "pu") (fun e => ?_) (fun e8 => ?_)
  · obtain ⟨r1, r2⟩ := hi 8 (of_decide_eq_true e) (by decide)
    refine ⟨small (by show 2 ≤ 1000; decide), fun l nl => ⟨_, rfl, ?_⟩⟩
    have s1 := same_new nl (.lst [V.int 0, V.int 1])
    exact ask_jo (ns := [0, 1]) (SqL.of upd_same) (s1.seq hS) (by decide) hl (fun z H' s => r1 (z.resolve_left (by decide)) H' (s1.trans s)) (fun _ z v H' s => r2 z v H' (s1.trans s))
  obtain ⟨r1, r2⟩ := hi 9 (by have := of_decide_eq_false e0; have := of_decide_eq_false e1; have := of_decide_eq_false e2; have := of_decide_eq_false e3; have := of_decide_eq_false e4; have := of_decide_eq_false e5; have := of_decide_eq_false e6; have := of_decide_eq_false e7; have := of_decide_eq_false e8; omega) (by decide)
  walk_at "sq"
  exact ⟨_, rfl, _, rfl, ask_jo hS hS hl hl (fun z => r1 (z.elim id id)) (fun z _ => r2 z)⟩
theorem ok_told (T : Txt K mg t) (G_law_asked : FnOk P w K mg base (CX1 P w) 8 t.a_law_asked t.d_law_asked ["_law_way", "_law_row", "_law_place_here"] (sp_asked K t)) (G_law_kinds : FnOkS P w K mg base 1 t.a_law_kinds t.d_law_kinds ["_law_e"] (sp_kinds K t)) :
    FnOk P w K mg base CX0 9 t.a_law_told t.d_law_told ["_law_way", "_law_row", "_law_place_here"] (sp_told K) := by
  refine T.f_law_told.fn.ok sc_law_told (fun vs H Q E h => ?_) (fun cdv A outer s H vs Q E hr h => ?_)
  · obtain ⟨k, a, ns, x, g, rfl, _⟩ := h
    rfl
  obtain ⟨k, a, ns, x, g, rfl, h0, h9, ha, hl, hP, q⟩ := h
  refine ⟨_, (pss_cons (ps_set (i := 3) sc_law_told.nd rfl (Or.inl rfl) (pe_lst pa_nil))
    (pss_cons (ps_tryAs (i := 4) rfl rfl rfl rfl (fun pins σ xe E hx => (pss_oneAt (ps_exprAt (pe_callAt G_law_asked (hr.mono (by decide)) rfl T.f_law_asked.mg T.f_law_asked.fn.kp T.f_law_asked.bd .nil hx (pa_cons (pv 0) (pa_cons (pv 1) (pa_cons (pv 2) pa_nil))))))) T.e_CountError rfl (fun _ => (pss_one (ps_set (i := 3) sc_law_told.nd rfl (Or.inl rfl) (pe_callS G_law_kinds (Room.marked (hr.mono (by decide))) rfl T.f_law_kinds.mg T.f_law_kinds.fn.kp T.f_law_kinds.bd (pa_cons (pv 4) pa_nil))))) sc_law_told.nd rfl rfl)
    (pss_one (ps_ret (pv 3))))), ?_⟩
  walk_at "sq"
  refine st_new fun td ntd => ?_
  have S1 := same_new ntd (.lst [])
  have ha1 := S1 _ _ ha
  have hP1 := hP.same S1
  have td1 : upd H td (.lst []) td = some (.lst []) := upd_same
  generalize upd H td (.lst []) = H1 at *
  have told : ∀ (C : Addr) (b1 b2 : Bool), Exi K C → PySem.W.kitOne K (.ref C) (.type "ValueError") = some true → PySem.W.kitOne K (.ref C) (.ref t.c_NotCalm) = some b1 → PySem.W.kitOne K (.ref C) (.ref t.c_NoPlace) = some b2 → PySem.W.kitOne K (.ref C) (.ref t.c_NothingDone) = some false →
      PySem.W.kitOne K (.ref C) (.ref t.c_NoText) = some false → toldF k g ns = [true, b1, b2, false, false] → ∀ H2, Same H1 H2 → ∀ e, H2 e = none →
      ∀ QQ : VK, (∀ v H3, Q v H3 → QQ v H3) → sp_kinds K t [.ref e] (upd H2 e (excO e (.ref C))) QQ := fun C b1 b2 xc k0 k1 k2 k3 k4 et H2 s2 e ne QQ hQ =>
    ⟨e, C, b1, b2, false, rfl, upd_same, xc, k0, k1, k2, k3, k4, fun l H' nl s' hl' => hQ _ _ <| q l H' ((S1.trans (s2.trans (same_new ne _))).free nl) ((S1.trans (s2.trans (same_new ne _))).trans s') (by rw [et]; exact hl')⟩
  walk_at "sq"
  refine ⟨_, rfl, _, rfl, _, rfl, k, a, ns, x, g, rfl, h0, h9, ha1, hl, hP1, fun hb H2 s2 => ?_, fun hb hc H2 s2 => ?_, fun hb hc v H2 s2 => ?_⟩
  · refine ⟨t.c_NoPlace, rfl, T.e_NoPlace.ok, T.es_NoPlace_CountError, fun e ne => ?_⟩
    refine ⟨_, rfl, ?_⟩
    refine tn_ ?_
    refine told t.c_NoPlace false true T.x_NoPlace T.kt_NoPlace_ValueError T.kt_NoPlace_NotCalm T.kt_NoPlace_NoPlace T.kt_NoPlace_NothingDone T.kt_NoPlace_NoText (by unfold toldF; rw [if_pos hb]) H2 s2 e ne _ ?_
    exact fun v H3 h => ⟨_, rfl, h⟩
  · refine ⟨t.c_NotCalm, rfl, T.e_NotCalm.ok, T.es_NotCalm_CountError, fun e ne => ?_⟩
    refine ⟨_, rfl, ?_⟩
    refine tn_ ?_
    refine told t.c_NotCalm true false T.x_NotCalm T.kt_NotCalm_ValueError T.kt_NotCalm_NotCalm T.kt_NotCalm_NoPlace T.kt_NotCalm_NothingDone T.kt_NotCalm_NoText (by unfold toldF; rw [if_neg hb, hc]; rfl) H2 s2 e ne _ ?_
    exact fun v H3 h => ⟨_, rfl, h⟩
  · walk_at "sq"
    exact st_ret (by walk_at "pu") (q td H2 ntd (S1.trans s2) (by unfold toldF; rw [if_neg hb, if_pos hc]; exact s2 _ _ td1))
theorem told_lo {k : Int} {g : Bool} {ns : List Int} (h : (decide (k < 5) && !g) = true) : toldF k g ns = [true, false, true, false, false] := by
  rw [Bool.and_eq_true] at h
  unfold toldF
  rw [if_pos ⟨of_decide_eq_true h.1, notT h.2⟩]
theorem told_hi {k : Int} {g : Bool} {ns : List Int} (h : (decide (k < 5) && !g) = false) : toldF k g ns = if calmF ns = true then [] else [true, true, false, false, false] := by
  unfold toldF
  rw [if_neg]
  rintro ⟨h1, h2⟩
  rw [decide_eq_true h1, h2] at h
  cases h
theorem ok_all (T : Txt K mg t) (G_law_told : FnOk P w K mg base CX0 9 t.a_law_told t.d_law_told ["_law_way", "_law_row", "_law_place_here"] (sp_told K)) (G_law_calm : FnOk P w K mg base CX0 1 t.a_law_calm t.d_law_calm ["_law_row"] (sp_lcalm K)) :
    FnOk P w K mg base CX0 10 t.a_law_all_told t.d_law_all_told ["_law_row", "_law_place_here", "_law_good"] (sp_all K) := by
  refine T.f_law_all_told.fn.ok sc_law_all_told (fun vs H Q E h => ?_) (fun cdv A outer s H vs Q E hr h => ?_)
  · obtain ⟨a, ns, x, g, rfl, _⟩ := h
    rfl
  obtain ⟨a, ns, x, g, rfl, ha, hl, hP, q⟩ := h
  refine ⟨_, (pss_cons (ps_set (i := 3) sc_law_all_told.nd rfl (Or.inl rfl) (pe_callTy call_list_of rfl T.b_list PyProof.Rows.boot_list (pa_cons (pv 0) pa_nil)))
    (pss_cons (ps_for PassesOwn.never rfl (pi_range1 rfl T.b_range (pa_cons pe_int pa_nil)) (pg_name (i := 4) sc_law_all_told.nd rfl (Or.inl rfl)) (pss_cons (ps_set (i := 5) sc_law_all_told.nd rfl (Or.inl rfl) (pe_lst pa_nil))
    (pss_cons (ps_if (pt_not (pt_val (pe_call G_law_calm (hr.mono (by decide)) rfl T.f_law_calm.mg T.f_law_calm.fn.kp T.f_law_calm.bd .nil pass0 (pa_cons (pv 0) pa_nil)))) (pss_one (ps_setL (i := 5) sc_law_all_told.nd rfl (Or.inl rfl) (pe_lst (pa_cons pe_bl (pa_cons pe_bl (pa_cons pe_bl (pa_cons pe_bl (pa_cons pe_bl pa_nil)))))))) pss_nil)
    (pss_cons (ps_if (PW.pt (pw_and (pt_cmpR op_lt (pv 4) pe_int (nomark _)) (pw_and1 (pt_not (pt_val (pv 2)))))) (pss_one (ps_setL (i := 5) sc_law_all_told.nd rfl (Or.inl rfl) (pe_lst (pa_cons pe_bl (pa_cons pe_bl (pa_cons pe_bl (pa_cons pe_bl (pa_cons pe_bl pa_nil)))))))) pss_nil)
    (pss_one (ps_if (PW.pt (pw_or (pt_cmpR (op_neD hr.units) (pe_call G_law_told (hr.mono (by decide)) rfl T.f_law_told.mg T.f_law_told.fn.kp T.f_law_told.bd .nil pass0 (pa_cons (pv 4) (pa_cons (pv 3) (pa_cons (pv 1) pa_nil)))) (pv 5) (nomark _)) (pw_or1 (pt_cmpR (op_neL hr.units) (pv 3) (pv 0) (nomark _))))) (pss_one (ps_ret pe_bl)) pss_nil))))))
    (pss_one (ps_ret pe_bl)))), ?_⟩
  walk_at "sq"
  refine st_copy (K := K) (a := a) (by walk_at "pu") (SqL.of ha) fun hd nh => ?_
  have S1 := same_new nh (.lst (iv ns))
  have d1 : upd H hd (.lst (iv ns)) hd = some (.lst (iv ns)) := upd_same
  have a1 := S1 _ _ ha
  have P1 := hP.same S1
  generalize upd H hd (.lst (iv ns)) = H1 at *
  clear nh ha hP
  walk_at "sq"
  refine st_range (j := 10) (by walk_at "pu") (by decide) (by decide) (fun k σ H2 => Same H1 H2 ∧ ∃ f1 f2, σ = [some (.ref a), some x, some (.bl g), some (.ref hd), f1, f2]) ⟨Same.refl _, none, none, rfl⟩ ?_ ?_
  · rintro k σ H2 hk ⟨S2, f1, f2, rfl⟩
    have hk10 : k < 10 := hk
    walk_at "sq"
    refine st_new fun d0 n0 => ?_
    have S3 := S2.trans (same_new n0 (.lst []))
    have e3 : upd H2 d0 (.lst []) d0 = some (.lst (bv [])) := upd_same
    generalize upd H2 d0 (.lst []) = H3 at *
    clear n0 S2
    walk_at "sq"
    refine st_ifT (fun σ' H' => Same H1 H' ∧ ∃ d, σ' = [some (.ref a), some x, some (.bl g), some (.ref hd), some (.int (0 + (k : Nat))), some (.ref d)] ∧ H' d = some (.lst (bv (if calmF ns = true then [] else [true, true, false, false, false])))) (fun σ4 H4 ⟨S4, d, e4, h4⟩ => ?_) (fun rest => ⟨_, rfl, a, ns, rfl, SqL.of (S3 _ _ a1), fun H4 s4 => ⟨_, rfl, ?_⟩⟩)
    · subst e4
      clear S3 e3
      walk_at "sq"
      refine st_ifR (b := decide (0 + (k : Int) < 5) && !g) (by walk_at "pu") (fun σ' H' => Same H1 H' ∧ ∃ d, σ' = [some (.ref a), some x, some (.bl g), some (.ref hd), some (.int (0 + (k : Nat))), some (.ref d)] ∧ H' d = some (.lst (bv (toldF (0 + (k : Int)) g ns)))) (fun σ5 H5 ⟨S5, d5, e5, h5⟩ => ?_) (fun rest e => ?_) (fun rest e => ?_)
      · subst e5
        walk_at "sq"
        refine st_ifQ ⟨_, rfl, _, rfl, _, rfl, 0 + (k : Int), hd, ns, x, g, rfl, by omega, by omega, S5 _ _ d1, hl, P1.same S5, fun l H6 nl s6 h6 => ⟨_, rfl, dB _, dB _, datR_B (SqL.of h6), datR_B (SqL.of (s6 _ _ h5)), shaped_dB _, shaped_dB _, _, rfl, ?_⟩⟩
        rw [eqv_dB, decide_eq_true rfl]
        refine iteF ⟨_, rfl, _, rfl, hd, a, ns, ns, rfl, rfl, SqL.of (s6 _ _ (S5 _ _ d1)), SqL.of (s6 _ _ (S5 _ _ a1)), _, rfl, ?_⟩
        rw [decide_eq_true rfl]
        exact iteF ⟨S5.trans s6, _, _, rfl⟩
      · walk_at "sq"
        refine st_lst (vs := [.bl true, .bl false, .bl true, .bl false, .bl false]) (by walk_at "pu") (by show 5 ≤ 1000; decide) fun p np => rest _ _ ⟨S4.trans (same_new np _), p, rfl, ?_⟩
        rw [told_lo e]
        exact upd_same
      · refine rest _ _ ⟨S4, d, rfl, ?_⟩
        rw [told_hi e]
        exact h4
    · cases hc : calmF ns
      · refine iteT ?_
        walk_at "sq"
        refine st_lst (vs := [.bl true, .bl true, .bl false, .bl false, .bl false]) (by walk_at "pu") (by show 5 ≤ 1000; decide) fun p np => rest _ _ ⟨(S3.trans s4).trans (same_new np _), p, rfl, ?_⟩
        rw [hc]
        exact upd_same
      · refine iteF (rest _ _ ⟨S3.trans s4, d0, rfl, ?_⟩)
        rw [hc]
        exact s4 _ _ e3
  · rintro σ H2 ⟨S2, f1, f2, rfl⟩
    walk_at "sq"
    exact st_ret (by walk_at "pu") (q H2 (S1.trans S2))
end
noncomputable def sp_deedTold (K : PySem.W.Frag) (C : Addr) : Sp := fun vs H Q _ => ∃ (p : Addr) (x : V) (u g : Bool) (rw dd : Addr) (l : List Int) (as : List Addr) (cs : List (List Ch)), vs = [.ref p, x, .bl u] ∧ CtrAt C H p rw dd l as cs ∧ calmF l = true ∧ l.length ≤ 5000 ∧ as.length ≤ 1000 ∧ Pl K H x g ∧
  (g = false → ∀ tl H', H tl = none → Same H H' → H' tl = some (.lst (bv [true, false, true, false, false])) → Q (.ref tl) H') ∧
  (g = true → ∀ (pl : Nat) rw' a' tl H', pl ≤ 399 → H tl = none → tl ≠ a' → But2 p dd H H' → CtrAt C H' p rw' dd (deedF (if u then 1 else 0) l pl) (as ++ [a']) (cs ++ [dueF (if u then 1 else 0) l pl]) → H' tl = some (.lst (bv [])) → Q (.ref tl) H')
noncomputable def sp_undoTold (C : Addr) : Sp := fun vs H Q _ => ∃ (p rw dd : Addr) (l : List Int) (as : List Addr) (cs : List (List Ch)), vs = [.ref p] ∧ CtrAt C H p rw dd l as cs ∧ l.length ≤ 5000 ∧
  (as = [] → ∀ tl H', H tl = none → Same H H' → H' tl = some (.lst (bv [true, false, false, true, false])) → Q (.ref tl) H') ∧
  ∀ as0 a0 cs0 c0, as = as0 ++ [a0] → cs = cs0 ++ [c0] → c0.length ≤ 1000 ∧ (∀ t ∈ c0, t.1 < 6000) ∧ ∀ rw' tl H', H tl = none → But2 p dd H H' → CtrAt C H' p rw' dd (Mth.putF l (backF c0)) as0 cs0 → H' tl = some (.lst (bv [])) → Q (.ref tl) H'
section
variable {P : Program} {w : World} {K : PySem.W.Frag} {mg : Str → Option Value} {base : Heap} {t : Adr}
theorem ok_deedTold (T : Txt K mg t) (G_Counter_add : FnOk P w K mg base (CX1 P w) 7 t.a_Counter_add t.d_Counter_add ["self", "place"] (sor (sp_cdeed t.c_own 1) (sp_cdBad K t.c_own t.c_NoPlace)))
    (G_Counter_take : FnOk P w K mg base (CX1 P w) 7 t.a_Counter_take t.d_Counter_take ["self", "place"] (sor (sp_cdeed t.c_own 0) (sp_cdBad K t.c_own t.c_NoPlace))) (G_law_kinds : FnOkS P w K mg base 1 t.a_law_kinds t.d_law_kinds ["_law_e"] (sp_kinds K t)) :
    FnOk P w K mg base CX0 8 t.a_law_deed_told t.d_law_deed_told ["_law_counter_here", "_law_place_here", "_law_up"] (sp_deedTold K t.c_own) := by
  refine T.f_law_deed_told.fn.ok sc_law_deed_told (fun vs H Q E h => ?_) (fun cdv A outer s H vs Q E hr h => ?_)
  · obtain ⟨p, x, u, g, rw, dd, l, as, cs, rfl, _⟩ := h
    rfl
  obtain ⟨p, x, u, g, rw, dd, l, as, cs, rfl, hA, hc, hl, hal, hP, q0, q1⟩ := h
  refine ⟨_, (pss_cons (ps_set (i := 3) sc_law_deed_told.nd rfl (Or.inl rfl) (pe_lst pa_nil))
    (pss_cons (ps_tryAs (i := 4) rfl rfl rfl rfl (fun pins σ xe E hx => (pss_oneAt (ps_ifAt (pt_val (pv 2)) (pss_oneAt (ps_exprAt (pe_methAt (pv 0) T.cl_own T.m_add G_Counter_add (hr.mono (by decide)) T.f_Counter_add.bd .nil hx (pa_cons (pv 1) pa_nil)))) (pss_oneAt (ps_exprAt (pe_methAt (pv 0) T.cl_own T.m_take G_Counter_take (hr.mono (by decide)) T.f_Counter_take.bd .nil hx (pa_cons (pv 1) pa_nil))))))) T.e_CountError rfl (fun _ => (pss_one (ps_set (i := 3) sc_law_deed_told.nd rfl (Or.inl rfl) (pe_callS G_law_kinds (Room.marked (hr.mono (by decide))) rfl T.f_law_kinds.mg T.f_law_kinds.fn.kp T.f_law_kinds.bd (pa_cons (pv 4) pa_nil))))) sc_law_deed_told.nd rfl rfl)
    (pss_one (ps_ret (pv 3))))), ?_⟩
  walk_at "sq"
  refine st_new fun td ntd => ?_
  have S1 := same_new ntd (.lst [])
  have hA1 := hA.same S1
  have hP1 := hP.same S1
  have td1 : upd H td (.lst []) td = some (.lst []) := upd_same
  have ntp : td ≠ p := fun e => by obtain ⟨⟨dx, z⟩, _⟩ := hA; rw [← e, ntd] at z; cases z
  have ntdd : td ≠ dd := fun e => by have z := hA.dds; rw [← e, ntd] at z; cases z
  generalize upd H td (.lst []) = H1 at *
  obtain ⟨dx, h1⟩ := hA1.ob
  walk_at "sq"
  rcases hP1 with ⟨rfl, pl, rfl, hpl⟩ | ⟨rfl, hb⟩
  · have fin : ∀ (r : Int) rs rw' a' H', r = (if u then 1 else 0) → H1 rs = none → H1 rw' = none → H1 a' = none → But2 p dd H1 H' → CtrAt t.c_own H' p rw' dd (deedF r l pl) (as ++ [a']) (cs ++ [dueF r l pl]) → ChL H' rs (dueF r l pl) → Q (.ref td) H' := fun r rs rw' a' H' er n1 n2 n3 b2 c2 _ => by
      subst er
      exact q1 rfl pl rw' a' td H' hpl ntd (fun e => by rw [e, n3] at td1; cases td1) (fun b o nb nd e => b2 b o nb nd (S1 _ _ e)) c2 (b2 _ _ ntp ntdd td1)
    walk_at "sq"
    refine st_if (b := u) (pu_tB (pu_var rfl)) (fun e => ?_) (fun e => ?_)
    · subst e
      refine ⟨_, rfl, p, dx, _, rfl, h1, fl_no _ _ (by decide +kernel) (by decide +kernel), _, rfl, .inl ⟨p, pl, rfl, rw, dd, l, as, cs, hA1, hc, hl, hpl, hal, fun rs rw' a' H' n1 n2 n3 _ _ b2 c2 ch => ?_⟩⟩
      walk_at "sq"
      exact st_ret (by walk_at "pu") (fin 1 rs rw' a' H' rfl n1 n2 n3 b2 c2 ch)
    · subst e
      refine ⟨_, rfl, p, dx, _, rfl, h1, fl_no _ _ (by decide +kernel) (by decide +kernel), _, rfl, .inl ⟨p, pl, rfl, rw, dd, l, as, cs, hA1, hc, hl, hpl, hal, fun rs rw' a' H' n1 n2 n3 _ _ b2 c2 ch => ?_⟩⟩
      walk_at "sq"
      exact st_ret (by walk_at "pu") (fin 0 rs rw' a' H' rfl n1 n2 n3 b2 c2 ch)
  · have kd : ∀ e, H1 e = none → ∀ QQ : VK, (∀ v H3, Q v H3 → QQ v H3) → sp_kinds K t [.ref e] (upd H1 e (excO e (.ref t.c_NoPlace))) QQ := fun e ne QQ hQ =>
      ⟨e, t.c_NoPlace, false, true, false, rfl, upd_same, T.x_NoPlace, T.kt_NoPlace_ValueError, T.kt_NoPlace_NotCalm, T.kt_NoPlace_NoPlace, T.kt_NoPlace_NothingDone, T.kt_NoPlace_NoText, fun l H' nl s' hl' => hQ _ _ <| q0 rfl l H' ((S1.trans (same_new ne _)).free nl) ((S1.trans (same_new ne _)).trans s') hl'⟩
    walk_at "sq"
    refine st_if (b := u) (pu_tB (pu_var rfl)) (fun e => ?_) (fun e => ?_)
    · refine ⟨_, rfl, p, dx, _, rfl, h1, fl_no _ _ (by decide +kernel) (by decide +kernel), _, rfl, .inr ⟨p, x, rfl, ⟨dx, _, h1, fl_no _ _ (by decide +kernel) (by decide +kernel)⟩, hb, t.c_NoPlace, rfl, T.e_NoPlace.ok, T.es_NoPlace_CountError, fun e ne => ⟨_, rfl, ?_⟩⟩⟩
      refine tn_ ?_
      refine kd e ne _ ?_
      exact fun v H3 h => ⟨_, rfl, h⟩
    · refine ⟨_, rfl, p, dx, _, rfl, h1, fl_no _ _ (by decide +kernel) (by decide +kernel), _, rfl, .inr ⟨p, x, rfl, ⟨dx, _, h1, fl_no _ _ (by decide +kernel) (by decide +kernel)⟩, hb, t.c_NoPlace, rfl, T.e_NoPlace.ok, T.es_NoPlace_CountError, fun e ne => ⟨_, rfl, ?_⟩⟩⟩
      refine tn_ ?_
      refine kd e ne _ ?_
      exact fun v H3 h => ⟨_, rfl, h⟩
theorem ok_undoTold (T : Txt K mg t) (G_Counter_undo : FnOk P w K mg base (CX1 P w) 2 t.a_Counter_undo t.d_Counter_undo ["self"] (sp_undo t.c_own t.c_NothingDone)) (G_law_kinds : FnOkS P w K mg base 1 t.a_law_kinds t.d_law_kinds ["_law_e"] (sp_kinds K t)) :
    FnOk P w K mg base CX0 3 t.a_law_undo_told t.d_law_undo_told ["_law_counter_here"] (sp_undoTold t.c_own) := by
  refine T.f_law_undo_told.fn.ok sc_law_undo_told (fun vs H Q E h => ?_) (fun cdv A outer s H vs Q E hr h => ?_)
  · obtain ⟨p, rw, dd, l, as, cs, rfl, _⟩ := h
    rfl
  obtain ⟨p, rw, dd, l, as, cs, rfl, hA, hl, q0, q1⟩ := h
  refine ⟨_, (pss_cons (ps_set (i := 1) sc_law_undo_told.nd rfl (Or.inl rfl) (pe_lst pa_nil))
    (pss_cons (ps_tryAs (i := 2) rfl rfl rfl rfl (fun pins σ xe E hx => (pss_oneAt (ps_exprAt (pe_methAt0 (pv 0) T.cl_own T.m_undo G_Counter_undo (hr.mono (by decide)) T.f_Counter_undo.bd .nil hx)))) T.e_CountError rfl (fun _ => (pss_one (ps_set (i := 1) sc_law_undo_told.nd rfl (Or.inl rfl) (pe_callS G_law_kinds (Room.marked (hr.mono (by decide))) rfl T.f_law_kinds.mg T.f_law_kinds.fn.kp T.f_law_kinds.bd (pa_cons (pv 2) pa_nil))))) sc_law_undo_told.nd rfl rfl)
    (pss_one (ps_ret (pv 1))))), ?_⟩
  walk_at "sq"
  refine st_new fun td ntd => ?_
  have S1 := same_new ntd (.lst [])
  have hA1 := hA.same S1
  have td1 : upd H td (.lst []) td = some (.lst []) := upd_same
  have ntp : td ≠ p := fun e => by obtain ⟨⟨dx, z⟩, _⟩ := hA; rw [← e, ntd] at z; cases z
  have ntdd : td ≠ dd := fun e => by have z := hA.dds; rw [← e, ntd] at z; cases z
  generalize upd H td (.lst []) = H1 at *
  obtain ⟨dx, h1⟩ := hA1.ob
  walk_at "sq"
  refine ⟨_, rfl, p, dx, _, rfl, h1, fl_no _ _ (by decide +kernel) (by decide +kernel), p, rw, dd, l, as, cs, rfl, hA1, hl, fun ea => ⟨t.c_NothingDone, rfl, T.e_NothingDone.ok, T.es_NothingDone_CountError, fun e ne => ⟨_, rfl, ?_⟩⟩, fun as0 a0 cs0 c0 ea ec => ?_⟩
  · exact ⟨e, t.c_NothingDone, false, false, true, rfl, upd_same, T.x_NothingDone, T.kt_NothingDone_ValueError, T.kt_NothingDone_NotCalm, T.kt_NothingDone_NoPlace, T.kt_NothingDone_NothingDone, T.kt_NothingDone_NoText, fun l H' nl s' hl' => ⟨_, rfl, q0 ea l H' ((S1.trans (same_new ne _)).free nl) ((S1.trans (same_new ne _)).trans s') hl'⟩⟩
  · obtain ⟨z1, z2, q⟩ := q1 as0 a0 cs0 c0 ea ec
    refine ⟨z1, z2, fun rs rw' H' n1 n2 _ b2 c2 _ => ?_⟩
    walk_at "sq"
    exact st_ret (by walk_at "pu") (q rw' td H' ntd (fun b o nb nd e => b2 b o nb nd (S1 _ _ e)) c2 (b2 _ _ ntp ntdd td1))
end
noncomputable def Und : List (List Ch) → List Int → Prop
  | [], l => l = []
  | c :: r, l => l.length ≤ 1000 ∧ c.length ≤ 1000 ∧ (∀ t ∈ c, t.1 < 6000) ∧ Und r (Mth.putF l (backF c))
theorem Und.len : ∀ {us : List (List Ch)} {l : List Int}, Und us l → l.length ≤ 1000
  | [], _, h => by rw [show _ = [] from h]; decide
  | _ :: _, _, h => h.1
structure K8 (C : Addr) (H0 H : Hp) (p dd : Addr) (us : List (List Ch)) (l : List Int) : Prop where
  ctr : ∃ rw as, CtrAt C H p rw dd l as us.reverse
  same : Same H0 H
  np : H0 p = none
  nd : H0 dd = none
  und : Und us l
theorem K8.on {C : Addr} {H0 H H' : Hp} {p dd : Addr} {us : List (List Ch)} {l : List Int} (k : K8 C H0 H p dd us l) (s : Same H H') : K8 C H0 H' p dd us l := by
  obtain ⟨⟨rw, as, c⟩, h1, h2, h3, h4⟩ := k
  exact ⟨⟨rw, as, c.same s⟩, h1.trans s, h2, h3, h4⟩
theorem K8.opened {C : Addr} {H0 H : Hp} {p dd : Addr} {us : List (List Ch)} {l : List Int} (k : K8 C H0 H p dd us l) : ∃ rw as dx, H p = some (.ins C dx (flds rw dd)) ∧ CtrAt C H p rw dd l as us.reverse ∧ as.length = us.length := by
  obtain ⟨⟨rw, as, c⟩, _⟩ := k
  obtain ⟨dx, h⟩ := c.ob
  exact ⟨rw, as, dx, h, c, by have := Paired.len c.chs; rw [this, List.length_reverse]⟩
theorem K8.but {C : Addr} {H0 H H' : Hp} {p dd : Addr} {us : List (List Ch)} {l : List Int} (k : K8 C H0 H p dd us l) (b : But2 p dd H H') : Same H0 H' := fun a o e => b a o (ne_of_none e k.np) (ne_of_none e k.nd) (k.same a o e)
theorem K8.more {C : Addr} {H0 H H' : Hp} {p dd rw' : Addr} {us : List (List Ch)} {l : List Int} {as' : List Addr} {r : Int} {pl : Nat} (k : K8 C H0 H p dd us l) (hc : calmF l = true) (hl : l.length ≤ 402 + us.length) (hu : us.length ≤ 10) (hp : pl ≤ 399) (b : But2 p dd H H')
    (c : CtrAt C H' p rw' dd (deedF r l pl) as' (us.reverse ++ [dueF r l pl])) : K8 C H0 H' p dd (dueF r l pl :: us) (deedF r l pl) ∧ (deedF r l pl).length ≤ 402 + (dueF r l pl :: us).length := by
  have hd : (deedF r l pl).length ≤ 402 + us.length + 1 := deed_len (by omega) (by omega)
  refine ⟨⟨⟨rw', as', by rw [List.reverse_cons]; exact c⟩, k.but b, k.np, k.nd, by omega, ?_, due_places (by omega) (by omega), ?_⟩, by rw [List.length_cons]; omega⟩
  · have := (due_told (r := r) l pl).2.2.1
    omega
  · rw [deed_back hc]
    exact k.und
theorem K8.less {C : Addr} {H0 H H' : Hp} {p dd rw' : Addr} {c0 : List Ch} {us : List (List Ch)} {l : List Int} {as' : List Addr} (k : K8 C H0 H p dd (c0 :: us) l) (b : But2 p dd H H') (c : CtrAt C H' p rw' dd (Mth.putF l (backF c0)) as' us.reverse) : K8 C H0 H' p dd us (Mth.putF l (backF c0)) :=
  ⟨⟨rw', as', c⟩, k.but b, k.np, k.nd, k.und.2.2.2⟩
noncomputable def sp_counter (K : PySem.W.Frag) : Sp := fun vs H Q _ => ∃ (x : V) (g : Bool) (nr : Nat) (u : Bool), vs = [x, .bl g, .int (nr : Nat), .bl u] ∧ nr ≤ 399 ∧ Pl K H x g ∧ ∀ H', Q (.bl true) H'
section
variable {P : Program} {w : World} {K : PySem.W.Frag} {mg : Str → Option Value} {base : Heap} {t : Adr}
theorem ok_counter (T : Txt K mg t) (G_Counter___init__ : FnOk P w K mg base CX0 1 t.a_Counter___init__ t.d_Counter___init__ ["self"] (sp_cinit t.c_own)) (G_law_undo_told : FnOk P w K mg base CX0 3 t.a_law_undo_told t.d_law_undo_told ["_law_counter_here"] (sp_undoTold t.c_own))
    (G_law_deed_told : FnOk P w K mg base CX0 8 t.a_law_deed_told t.d_law_deed_told ["_law_counter_here", "_law_place_here", "_law_up"] (sp_deedTold K t.c_own)) (G_Counter_add : FnOk P w K mg base (CX1 P w) 7 t.a_Counter_add t.d_Counter_add ["self", "place"] (sor (sp_cdeed t.c_own 1) (sp_cdBad K t.c_own t.c_NoPlace)))
    (G_Counter_figures : FnOk P w K mg base CX0 1 t.a_Counter_figures t.d_Counter_figures ["self"] (sp_figures t.c_own)) (G_Counter_amount : FnOk P w K mg base CX0 2 t.a_Counter_amount t.d_Counter_amount ["self"] (sp_amount t.c_own))
    (G_Counter_many : FnOk P w K mg base CX0 1 t.a_Counter_many t.d_Counter_many ["self"] (sp_many t.c_own)) :
    FnOk P w K mg base CX0 9 t.a_law_counter t.d_law_counter ["_law_place_here", "_law_good", "_law_near", "_law_up"] (sp_counter K) := by
  refine T.f_law_counter.fn.ok sc_law_counter (fun vs H Q E h => ?_) (fun cdv A outer s H vs Q E hr h => ?_)
  · obtain ⟨x, g, nr, u, rfl, _⟩ := h
    rfl
  obtain ⟨x, g, nr, u, rfl, hn, hP, q⟩ := h
  refine ⟨_, (pss_cons (ps_set (i := 4) sc_law_counter.nd rfl (Or.inl rfl) (pe_make0 T.mk_own G_Counter___init__ (hr.mono (by decide)) rfl T.mg_own T.f_Counter___init__.bd .nil pass0))
    (pss_cons (ps_if (PW.pt (pw_or (pt_cmpR (op_neD hr.units) (pe_call G_law_undo_told (hr.mono (by decide)) rfl T.f_law_undo_told.mg T.f_law_undo_told.fn.kp T.f_law_undo_told.bd .nil pass0 (pa_cons (pv 4) pa_nil)) (pe_lst (pa_cons pe_bl (pa_cons pe_bl (pa_cons pe_bl (pa_cons pe_bl (pa_cons pe_bl pa_nil)))))) (nomark _)) (pw_or1 (pt_cmpR op_ne (pe_meth0 (pv 4) T.cl_own T.m_many G_Counter_many (hr.mono (by decide)) T.f_Counter_many.bd .nil pass0) pe_int (nomark _))))) (pss_one (ps_ret pe_bl)) pss_nil)
    (pss_cons (ps_expr (pe_meth (pv 4) T.cl_own T.m_add G_Counter_add (hr.mono (by decide)) T.f_Counter_add.bd .nil passN (pa_cons (pv 2) pa_nil)))
    (pss_cons (ps_set (i := 5) sc_law_counter.nd rfl (Or.inl rfl) (pe_meth0 (pv 4) T.cl_own T.m_figures G_Counter_figures (hr.mono (by decide)) T.f_Counter_figures.bd .nil pass0))
    (pss_cons (ps_set (i := 6) sc_law_counter.nd rfl (Or.inl rfl) (pe_lst pa_nil))
    (pss_cons (ps_if (pt_not (pt_val (pv 1))) (pss_one (ps_setL (i := 6) sc_law_counter.nd rfl (Or.inl rfl) (pe_lst (pa_cons pe_bl (pa_cons pe_bl (pa_cons pe_bl (pa_cons pe_bl (pa_cons pe_bl pa_nil)))))))) pss_nil)
    (pss_cons (ps_if (pt_cmpR (op_neD hr.units) (pe_call G_law_deed_told (hr.mono (by decide)) rfl T.f_law_deed_told.mg T.f_law_deed_told.fn.kp T.f_law_deed_told.bd .nil pass0 (pa_cons (pv 4) (pa_cons (pv 0) (pa_cons (pv 3) pa_nil)))) (pv 6) (nomark _)) (pss_one (ps_ret pe_bl)) pss_nil)
    (pss_cons (ps_if (PW.pt (pw_and (pt_not (pt_val (pv 1))) (pw_and1 (PW.pt (pw_or (pt_cmpR (op_neL hr.units) (pe_meth0 (pv 4) T.cl_own T.m_figures G_Counter_figures (hr.mono (by decide)) T.f_Counter_figures.bd .nil pass0) (pv 5) (nomark _)) (pw_or1 (pt_cmpR op_ne (pe_meth0 (pv 4) T.cl_own T.m_many G_Counter_many (hr.mono (by decide)) T.f_Counter_many.bd .nil pass0) pe_int (nomark _)))))))) (pss_one (ps_ret pe_bl)) pss_nil)
    (pss_cons (ps_if (PW.pt (pw_or (pt_cmpR (op_neD hr.units) (pe_call G_law_deed_told (hr.mono (by decide)) rfl T.f_law_deed_told.mg T.f_law_deed_told.fn.kp T.f_law_deed_told.bd .nil pass0 (pa_cons (pv 4) (pa_cons (pv 2) (pa_cons (pe_not (pv 3)) pa_nil)))) (pe_lst pa_nil) (nomark _)) (pw_or1 (pt_cmpR op_ne (pe_meth0 (pv 4) T.cl_own T.m_many G_Counter_many (hr.mono (by decide)) T.f_Counter_many.bd .nil pass0) (pe_op op_add pe_int (pe_callTy call_int1 rfl T.b_int PyProof.Rows.boot_int (pa_cons (pv 1) pa_nil))) (nomark _))))) (pss_one (ps_ret pe_bl)) pss_nil)
    (pss_cons (ps_for PassesOwn.never rfl (pi_range1 rfl T.b_range (pa_cons (pe_op op_add pe_int (pe_callTy call_int1 rfl T.b_int PyProof.Rows.boot_int (pa_cons (pv 1) pa_nil))) pa_nil)) (pg_name (i := 7) sc_law_counter.nd rfl (Or.inl rfl)) (pss_one (ps_if (pt_cmpR (op_neD hr.units) (pe_call G_law_undo_told (hr.mono (by decide)) rfl T.f_law_undo_told.mg T.f_law_undo_told.fn.kp T.f_law_undo_told.bd .nil pass0 (pa_cons (pv 4) pa_nil)) (pe_lst pa_nil) (nomark _)) (pss_one (ps_ret pe_bl)) pss_nil)))
    (pss_cons (ps_if (pt_cmpR (op_neD hr.units) (pe_call G_law_undo_told (hr.mono (by decide)) rfl T.f_law_undo_told.mg T.f_law_undo_told.fn.kp T.f_law_undo_told.bd .nil pass0 (pa_cons (pv 4) pa_nil)) (pe_lst (pa_cons pe_bl (pa_cons pe_bl (pa_cons pe_bl (pa_cons pe_bl (pa_cons pe_bl pa_nil)))))) (nomark _)) (pss_one (ps_ret pe_bl)) pss_nil)
    (pss_one (ps_ret (pe_and (pe_cmpR (op_eqL hr.units) (pe_meth0 (pv 4) T.cl_own T.m_figures G_Counter_figures (hr.mono (by decide)) T.f_Counter_figures.bd .nil pass0) (pe_lst pa_nil) (nomark _)) (pe_and (pe_cmpR op_eq (pe_meth0 (pv 4) T.cl_own T.m_many G_Counter_many (hr.mono (by decide)) T.f_Counter_many.bd .nil pass0) pe_int (nomark _)) (pe_one (pe_cmpR op_eq (pe_meth0 (pv 4) T.cl_own T.m_amount G_Counter_amount (hr.mono (by decide)) T.f_Counter_amount.bd .nil pass0) pe_int (nomark _)))))))))))))))))), ?_⟩
  walk_at "sq"
  refine st_te ?_
  intro p dx np ndx nep
  refine ⟨p, dx, rfl, upd_same, fun rw dd H1 nrw ndd nrd b1 c1 => ⟨rfl, ?_⟩⟩
  have k1 : K8 t.c_own H H1 p dd [] [] := by
    refine ⟨⟨rw, [], c1⟩, fun b o e => b1 b o (ne_of_none e np) (by rw [upd_ne (ne_of_none e np), upd_ne (ne_of_none e ndx)]; exact e), np, ?_, rfl⟩
    have n1 : dd ≠ p := fun e => by rw [e, upd_same] at ndd; cases ndd
    rw [upd_ne n1] at ndd
    have n2 : dd ≠ dx := fun e => by rw [e, upd_same] at ndd; cases ndd
    rw [upd_ne n2] at ndd
    exact ndd
  clear np ndx nep nrw ndd nrd b1 c1
  have fln : ∀ {rw dd : Addr} {m : Str}, ¬ m = "deeds" → ¬ m = "row" → (flds rw dd).lookup m = none := fun h1 h2 => fl_no _ _ h1 h2
  obtain ⟨rw1, as1, dx1, h1, c1, l1⟩ := k1.opened
  walk_at "sq"
  refine st_ifQ ⟨_, rfl, p, rw1, dd, [], as1, _, rfl, c1, by decide, fun _ tl H2 ntl s2 h2 => ?_, fun as0 a0 cs0 c0 _ ec => by simp at ec⟩
  refine ⟨small (by show 5 ≤ 1000; decide), fun l2 n2 => ⟨dB [true, false, false, true, false], dB [true, false, false, true, false], datR_B (SqL.of (same_new n2 _ _ _ h2)), datR_B (SqL.of upd_same), shaped_dB _, shaped_dB _, _, rfl, ?_⟩⟩
  rw [eqv_dB, decide_eq_true rfl]
  have k2 := k1.on (s2.trans (same_new n2 (.lst [V.bl true, V.bl false, V.bl false, V.bl true, V.bl false])))
  generalize upd H2 l2 (.lst [V.bl true, V.bl false, V.bl false, V.bl true, V.bl false]) = H3 at *
  clear h2 n2 s2 ntl h1 c1 l1 k1
  obtain ⟨rw2, as2, dx2, h2, c2, l2'⟩ := k2.opened
  refine iteF ⟨_, rfl, p, dx2, _, rfl, h2, fln (by decide +kernel) (by decide +kernel), p, rw2, dd, [], as2, _, rfl, c2, rfl, _, rfl, ?_⟩
  rw [dec_v, l2']
  refine iteF ?_
  walk_at "sq"
  refine ⟨_, rfl, p, dx2, _, rfl, h2, fln (by decide +kernel) (by decide +kernel), _, rfl, .inl ⟨p, nr, rfl, rw2, dd, [], as2, _, c2, rfl, by decide, hn, by rw [l2']; decide, fun rs rw' a' H4 n1 n2 n3 _ _ b4 c4 _ => ?_⟩⟩
  obtain ⟨k4, len4⟩ := k2.more rfl (by decide) (by decide) hn b4 c4
  have calm4 : calmF (deedF 1 [] nr) = true := added_calm rfl nr
  clear k2 h2 c2 l2' b4 c4 n1 n2 n3
  have us4 : [dueF 1 [] nr].length = 1 := rfl
  generalize [dueF 1 [] nr] = us at *
  generalize deedF 1 [] nr = l at *
  obtain ⟨rw4, as4, dx4, h4, c4, l4⟩ := k4.opened
  walk_at "sq"
  refine st_te ⟨_, rfl, p, dx4, _, rfl, h4, fln (by decide +kernel) (by decide +kernel), p, rw4, dd, l, as4, _, rfl, c4, fun r H5 nr5 s5 r5 => ?_⟩
  have k5 := k4.on s5
  have nrp : r ≠ p := fun e => by rw [← e, nr5] at h4; cases h4
  have nrd : r ≠ dd := fun e => by have z := c4.dds; rw [← e, nr5] at z; cases z
  clear h4 c4 l4 k4 s5 nr5
  walk_at "sq"
  refine st_new fun d0 n0 => ?_
  have k6 := k5.on (same_new n0 (.lst []))
  have r6 := same_new n0 (.lst []) _ _ r5
  have d6 : upd H5 d0 (.lst []) d0 = some (.lst (bv [])) := upd_same
  generalize upd H5 d0 (.lst []) = H6 at *
  clear k5 r5 n0
  walk_at "sq"
  refine st_ifR (b := !g) (pt_not' (pu_tB (pu_var rfl))) (fun σ' H' => ∃ d, σ' = [some x, some (.bl g), some (.int (nr : Nat)), some (.bl u), some (.ref p), some (.ref r), some (.ref d), none] ∧ K8 t.c_own H H' p dd us l ∧ H' r = some (.lst (iv l)) ∧ H' d = some (.lst (bv (if g = true then [] else [true, false, true, false, false]))))
    (fun σ7 H7 ⟨d, e7, k7, r7, d7⟩ => ?_) (fun rest e => ?_) (fun rest e => ?_)
  rotate_left
  · walk_at "sq"
    refine st_lst (vs := [.bl true, .bl false, .bl true, .bl false, .bl false]) (by walk_at "pu") (by show 5 ≤ 1000; decide) fun d np => rest _ _ ⟨d, rfl, k6.on (same_new np _), same_new np _ _ _ r6, ?_⟩
    rw [notT e]
    exact upd_same
  · refine rest _ _ ⟨d0, rfl, k6, r6, ?_⟩
    rw [notF e]
    exact d6
  subst e7
  clear k6 r6 d6
  obtain ⟨rw7, as7, dx7, h7, c7, l7⟩ := k7.opened
  have ndp : ∀ d' : Addr, d' = p → H7 d' = some (.lst (bv (if g = true then [] else [true, false, true, false, false]))) → False := fun d' e z => by rw [e, h7] at z; cases z
  walk_at "sq"
  refine st_ifT (fun σ' H' => σ' = [some x, some (.bl g), some (.int (nr : Nat)), some (.bl u), some (.ref p), some (.ref r), some (.ref d), none] ∧ ∃ us' l', K8 t.c_own H H' p dd us' l' ∧ calmF l' = true ∧ l'.length ≤ 402 + us'.length ∧ us'.length = (if g = true then 2 else 1) ∧ (g = false → l' = l) ∧ H' r = some (.lst (iv l)))
    (fun σ8 H8 ⟨e8, us8, l8, k8, calm8, len8, n8, g8, r8⟩ => ?_) (fun rest => ?_)
  rotate_left
  · refine ⟨_, rfl, _, rfl, _, rfl, p, x, u, g, rw7, dd, l, as7, _, rfl, c7, calm4, by omega, by omega, hP.same k7.same, fun eg tl H8 ntl s8 h8 => ⟨_, rfl, dB [true, false, true, false, false], dB [true, false, true, false, false], datR_B (SqL.of h8), datR_B (SqL.of ?_), shaped_dB _, shaped_dB _, _, rfl, ?_⟩, fun eg pl rw' a' tl H8 hpl ntl nta b8 c8 h8 => ⟨_, rfl, dB [], dB [], datR_B (SqL.of h8), datR_B (SqL.of ?_), shaped_dB _, shaped_dB _, _, rfl, ?_⟩⟩
    · have := s8 _ _ d7
      rw [eg] at this
      exact this
    · rw [eqv_dB, decide_eq_true rfl]
      exact iteF (rest _ _ ⟨rfl, us, l, k7.on s8, calm4, len4, by rw [eg]; exact us4, fun _ => rfl, s8 _ _ r7⟩)
    · have z : d ≠ dd := fun e => by
        have z := c7.dds
        rw [← e, d7, eg] at z
        have z' : (.lst (bv []) : HO) = .lst (as7.map V.ref) := by injection z
        have z2 : as7.map V.ref = [] := by injection z' with z'; exact z'.symm
        have z3 : as7 = [] := by simpa using z2
        rw [z3, us4] at l7
        cases l7
      have := b8 _ _ (fun e => ndp d e d7) z d7
      rw [eg] at this
      exact this
    · rw [eqv_dB, decide_eq_true rfl]
      obtain ⟨k8, len8⟩ := k7.more calm4 len4 (by omega) hpl b8 c8
      refine iteF (rest _ _ ⟨rfl, _, _, k8, ?_, len8, (by rw [List.length_cons, us4, eg]; rfl), (fun z => by rw [eg] at z; cases z), b8 _ _ nrp nrd r7⟩)
      cases u
      · exact taken_calm calm4 pl
      · exact added_calm calm4 pl
  subst e8
  clear k7 r7 d7 h7 c7 l7 ndp len4 calm4 us4
  obtain ⟨rw8, as8, dx8, h8, c8, l8'⟩ := k8.opened
  walk_at "sq"
  refine st_ifT (fun σ' H' => σ' = [some x, some (.bl g), some (.int (nr : Nat)), some (.bl u), some (.ref p), some (.ref r), some (.ref d), none] ∧ K8 t.c_own H H' p dd us8 l8) (fun σ9 H9 ⟨e9, k9⟩ => ?_) (fun rest => ?_)
  rotate_left
  · cases g
    · have e1 := g8 rfl
      subst e1
      refine ⟨_, rfl, _, rfl, iteT ⟨_, rfl, p, dx8, _, rfl, h8, fln (by decide +kernel) (by decide +kernel), p, rw8, dd, l8, as8, _, rfl, c8, fun r9 H9 n9 s9 h9 => ⟨_, rfl, r9, r, l8, l8, rfl, rfl, SqL.of h9, SqL.of (s9 _ _ r8), _, rfl, ?_⟩⟩⟩
      rw [decide_eq_true rfl]
      have k9 := k8.on s9
      obtain ⟨rw9, as9, dx9, h9', c9, l9⟩ := k9.opened
      refine iteF ⟨_, rfl, p, dx9, _, rfl, h9', fln (by decide +kernel) (by decide +kernel), p, rw9, dd, l8, as9, _, rfl, c9, rfl, _, rfl, ?_⟩
      rw [dec_v, l9, n8]
      exact iteF (rest _ _ ⟨rfl, k9⟩)
    · exact ⟨_, rfl, _, rfl, iteF (iteF (rest _ _ ⟨rfl, k8⟩))⟩
  subst e9
  clear h8 c8 l8' k8 r8
  obtain ⟨rw9, as9, dx9, h9, c9, l9⟩ := k9.opened
  have hi : (if g = true then (1 : Int) else 0) = 0 ∨ (if g = true then (1 : Int) else 0) = 1 := by cases g <;> simp
  have n8i : ((us8.length : Nat) : Int) = 1 + (if g = true then 1 else 0) := by rw [n8]; cases g <;> rfl
  walk_at "sq"
  refine st_ifT (fun σ' H' => σ' = [some x, some (.bl g), some (.int (nr : Nat)), some (.bl u), some (.ref p), some (.ref r), some (.ref d), none] ∧ ∃ us' l', K8 t.c_own H H' p dd us' l' ∧ ((us'.length : Nat) : Int) = 2 + (if g = true then 1 else 0)) (fun σ10 H10 ⟨e10, us10, l10, k10, n10⟩ => ?_) (fun rest => ?_)
  rotate_left
  · refine ⟨_, rfl, _, rfl, _, rfl, _, rfl, p, .int (nr : Nat), !u, true, rw9, dd, l8, as9, _, rfl, c9, calm8, by omega, by omega, .inl ⟨rfl, nr, rfl, hn⟩, (fun eg => by cases eg), fun _ pl rw' a' tl H10 hpl ntl nta b10 c10 h10 => ⟨Nat.zero_le _, fun l10 n10 => ⟨dB [], dB [], datR_B (SqL.of (same_new n10 _ _ _ h10)), datR_B (SqL.of upd_same), shaped_dB _, shaped_dB _, _, rfl, ?_⟩⟩⟩
    rw [eqv_dB, decide_eq_true rfl]
    obtain ⟨k10, _⟩ := k9.more calm8 len8 (by omega) hpl b10 c10
    have k11 := k10.on (same_new n10 (.lst []))
    obtain ⟨rw11, as11, dx11, h11, c11, l11⟩ := k11.opened
    have e11 : ((as11.length : Nat) : Int) = 2 + (if g = true then 1 else 0) := by rw [l11, List.length_cons]; omega
    refine iteF ⟨_, rfl, p, dx11, _, rfl, h11, fln (by decide +kernel) (by decide +kernel), p, rw11, dd, _, as11, _, rfl, c11, _, rfl, .inr ⟨g, rfl, _, _, rfl, rfl, rfl, _, rfl, ?_⟩⟩
    rw [dec_v, decide_eq_true e11]
    exact iteF (rest _ _ ⟨rfl, _, _, k11, by rw [List.length_cons]; omega⟩)
  subst e10
  clear h9 c9 l9 k9 calm8 len8 n8i
  walk_at "sq"
  refine st_range (j := 2 + (if g = true then 1 else 0)) (by walk_at "pu") (by omega) (by omega) (fun k σ' H' => (∃ f, σ' = [some x, some (.bl g), some (.int (nr : Nat)), some (.bl u), some (.ref p), some (.ref r), some (.ref d), f]) ∧ ∃ us' l', K8 t.c_own H H' p dd us' l' ∧ us'.length + k = us10.length) ⟨⟨none, rfl⟩, us10, l10, k10, rfl⟩ ?_ ?_
  · rintro k σ' H11 hk ⟨⟨f, rfl⟩, us', l', k11, n11⟩
    have hne : us' ≠ [] := fun e => by rw [e] at n11; simp at n11; omega
    obtain ⟨c0, us0, rfl⟩ := List.exists_cons_of_ne_nil hne
    obtain ⟨rw11, as11, dx11, h11, c11, l11⟩ := k11.opened
    have hlen := k11.und.len
    walk_at "sq"
    refine st_ifQ ⟨_, rfl, p, rw11, dd, l', as11, _, rfl, c11, by omega, (fun ea => by rw [ea] at l11; cases l11), fun as0 a0 cs0 c0' ea ec => ?_⟩
    rw [List.reverse_cons] at ec
    obtain ⟨e1, e2⟩ := List.append_inj' ec rfl
    injection e2 with e2 _
    subst e1 e2
    refine ⟨k11.und.2.1, k11.und.2.2.1, fun rw' tl H12 ntl b12 c12 h12 => ⟨Nat.zero_le _, fun l12 n12 => ⟨dB [], dB [], datR_B (SqL.of (same_new n12 _ _ _ h12)), datR_B (SqL.of upd_same), shaped_dB _, shaped_dB _, _, rfl, ?_⟩⟩⟩
    rw [eqv_dB, decide_eq_true rfl]
    exact iteF ⟨⟨_, rfl⟩, us0, _, (k11.less b12 c12).on (same_new n12 _), by rw [List.length_cons] at n11; omega⟩
  · rintro σ' H11 ⟨⟨f, rfl⟩, us', l', k11, n11⟩
    have e0 : us' = [] := List.length_eq_zero_iff.mp (by omega)
    subst e0
    have el : l' = [] := k11.und
    subst el
    obtain ⟨rw11, as11, dx11, h11, c11, l11⟩ := k11.opened
    walk_at "sq"
    refine st_ifQ ⟨_, rfl, p, rw11, dd, [], as11, _, rfl, c11, by decide, fun _ tl H12 ntl s12 h12 => ?_, fun as0 a0 cs0 c0 _ ec => by simp at ec⟩
    refine ⟨small (by show 5 ≤ 1000; decide), fun l2 n2 => ⟨dB [true, false, false, true, false], dB [true, false, false, true, false], datR_B (SqL.of (same_new n2 _ _ _ h12)), datR_B (SqL.of upd_same), shaped_dB _, shaped_dB _, _, rfl, ?_⟩⟩
    rw [eqv_dB, decide_eq_true rfl]
    have k12 := k11.on (s12.trans (same_new n2 (.lst [V.bl true, V.bl false, V.bl false, V.bl true, V.bl false])))
    generalize upd H12 l2 (.lst [V.bl true, V.bl false, V.bl false, V.bl true, V.bl false]) = H13 at *
    obtain ⟨rw13, as13, dx13, h13, c13, l13⟩ := k12.opened
    refine iteF ?_
    walk_at "sq"
    refine ⟨_, rfl, p, dx13, _, rfl, h13, fln (by decide +kernel) (by decide +kernel), p, rw13, dd, [], as13, _, rfl, c13, fun r14 H14 n14 s14 h14 => ⟨Nat.zero_le _, fun l15 n15 => ⟨r14, l15, [], [], rfl, rfl, SqL.of (same_new n15 _ _ _ h14), SqL.of upd_same, _, rfl, ?_⟩⟩⟩
    rw [decide_eq_true rfl]
    have k15 := k12.on (s14.trans (same_new n15 (.lst [])))
    obtain ⟨rw15, as15, dx15, h15, c15, l15'⟩ := k15.opened
    refine iteT ⟨_, rfl, p, dx15, _, rfl, h15, fln (by decide +kernel) (by decide +kernel), p, rw15, dd, [], as15, _, rfl, c15, rfl, _, rfl, ?_⟩
    rw [dec_v, l15']
    refine iteT ⟨_, rfl, p, dx15, _, rfl, h15, fln (by decide +kernel) (by decide +kernel), p, rw15, dd, [], as15, _, rfl, c15, rfl, ?_⟩
    exact q _
end
noncomputable def sp_place (K : PySem.W.Frag) : Sp := fun vs H Q _ => ∃ k c : Int, vs = [.int k, .int c] ∧ 0 ≤ k ∧ k ≤ 9 ∧ ∀ x H', Same H H' → Pl K H' x (decide (k < 6)) → Q x H'
noncomputable def sp_spoiled (K : PySem.W.Frag) : Sp := fun vs H Q _ => ∃ (a b : Addr) (ns ms : List Int), vs = [.ref a, .ref b] ∧ SqL K H a (iv ns) ∧ H b = some (.lst (iv ms)) ∧ ms.length ≤ 60 ∧
  ∀ (r : Addr) (fs : List Int) (H' : Hp), H r = none → Same H H' → H' r = some (.lst (iv fs)) → fs.length ≤ 200 → Q (.ref r) H'
theorem kit_no (K : PySem.W.Frag) {T : String} (h0 : (Value.type T == Value.type "int") = false) (h : (fastBuiltinMro T).map (·.contains (Value.type "int")) = some false) : PySem.W.kitOne K (.type T) (.type "int") = some false := by
  have e1 : PySem.W.kitMeta "int" = true := by decide +kernel
  show (if (Value.type T == Value.type "int") = true then some true else if PySem.W.kitMeta "int" = true then PySem.W.subIn K (.type T) (.type "int") else none) = some false
  rw [if_neg (by rw [h0]; decide), if_pos e1]
  exact h
theorem Pl.upl {K : PySem.W.Frag} {H : Hp} {x : V} {g : Bool} {r : Addr} {xs ys : List V} (h : Pl K H x g) (hr : H r = some (.lst xs)) : Pl K (upd H r (.lst ys)) x g := by
  rcases h with h | ⟨e, h⟩
  · exact .inl h
  · refine .inr ⟨e, ?_⟩
    rcases h with h | h | ⟨T, ty, k⟩
    · exact .inl h
    · exact .inr (.inl h)
    · refine .inr (.inr ⟨T, ?_, k⟩)
      have ne : ∀ {a : Addr} {o : HO}, H a = some o → (∀ zs, o ≠ .lst zs) → upd H r (.lst ys) a = some o := fun {a o} ha ho => by
        rw [upd_ne (fun z => by rw [z, hr] at ha; cases ha; exact ho _ rfl)]; exact ha
      cases ty with
      | non => exact .non
      | bl b => exact .bl b
      | int i => exact .int i
      | str y => exact .str y
      | flt y => exact .flt y
      | @lst a zs e =>
        by_cases z : a = r
        · subst z; exact .lst upd_same
        · exact .lst (by rw [upd_ne z]; exact e)
      | frz e => exact .frz (ne e fun _ z => by cases z)
      | tup e => exact .tup (ne e fun _ z => by cases z)
      | dK e => exact .dK (ne e fun _ z => by cases z)
      | dT e => exact .dT (ne e fun _ z => by cases z)
section
variable {P : Program} {w : World} {K : PySem.W.Frag} {mg : Str → Option Value} {base : Heap} {t : Adr}
theorem ok_place (T : Txt K mg t) : FnOk P w K mg base CX0 1 t.a_law_place t.d_law_place ["_law_way", "_law_cell"] (sp_place K) := by
  refine T.f_law_place.fn.ok sc_law_place (fun vs H Q E h => ?_) (fun cdv A outer s H vs Q E hr h => ?_)
  · obtain ⟨k, c, rfl, _⟩ := h
    rfl
  obtain ⟨k, c, rfl, h0, h9, q⟩ := h
  refine ⟨_, pssi_un (pssi_cons (psi (ps_if (pt_cmpR op_lt (pv 0) pe_int (nomark _)) (pss_one (ps_ret (pe_op op_mod (pv 1) pe_int))) pss_nil)) (pssi_cons (psi (ps_if (pt_cmpR op_eq (pv 0) pe_int (nomark _)) (pss_one (ps_ret (pe_ix ix_list (pe_lst (pa_cons pe_int (pa_cons pe_int pa_nil))) (pe_op op_mod (pv 1) pe_int) (fun _ _ => rfl)))) pss_nil)) (pssi_cons (psi (ps_if (pt_cmpR op_eq (pv 0) pe_int (nomark _)) (pss_one (ps_ret (pe_op op_sub (pe_un un_neg pe_int) (pe_op op_mul (pe_op op_mod (pe_op op_fdiv (pv 1) pe_int) (pe_op op_pow pe_int pe_int)) (pe_op op_mod (pv 1) pe_int))))) pss_nil)) (pssi_cons (psi (ps_if (pt_cmpR op_eq (pv 0) pe_int (nomark _)) (pss_one (ps_ret (pe_op op_add pe_int (pe_op op_mul (pe_op op_mod (pe_op op_fdiv (pv 1) pe_int) (pe_op op_pow pe_int pe_int)) (pe_op op_mod (pv 1) pe_int))))) pss_nil)) (pssi_cons (psi (ps_if (pt_cmpR op_eq (pv 0) pe_int (nomark _)) (pss_one (ps_ret (pe_cmpR op_eq (pe_op op_mod (pv 1) pe_int) pe_int (nomark _)))) pss_nil)) (pssi_one (psi_ret (pei_ix ix_list (pei_lst (pai_c pei_non (pai_c pei_str (pai_c pei_str (pai_l (pei_lst pai_nil) (pai_l (pei_lst (pai_c pei_int pai_nil)) (pai_t (pei_tup (pai_c pei_int pai_nil)) pai_nil))))))) (pe_op op_mod (pv 1) pe_int) (fun _ _ => rfl))))))))), ?_⟩
  have m1 := Int.emod_nonneg c (show (400 : Int) ≠ 0 by decide)
  have m2 := Int.emod_lt_of_pos c (show (0 : Int) < 400 by decide)
  have b1 := Int.emod_nonneg c (show (2 : Int) ≠ 0 by decide)
  have b2 := Int.emod_lt_of_pos c (show (0 : Int) < 2 by decide)
  have p1 := Int.emod_nonneg (c / 2) (show (10 ^ (18 : Int).toNat : Int) ≠ 0 by decide)
  have hm : CMul (c / 2 % 10 ^ (18 : Int).toNat) (c % 2) := .inr ⟨by omega, by omega⟩
  have hmn := Int.mul_nonneg p1 b1
  have hp : (0 : Int) < 10 ^ (18 : Int).toNat := by decide
  walk_at "sq"
  refine st_if (b := decide (k < 5)) (by walk_at "pu") (fun e => ?_) (fun e => ?_)
  · have e := of_decide_eq_true e
    walk_at "sq"
    exact st_ret (by walk_at "pu") (q _ H (Same.refl _) (.inl ⟨decide_eq_true (by omega), (c % 400).toNat, by rw [Int.toNat_of_nonneg m1], by omega⟩))
  have e0 := of_decide_eq_false e
  walk_at "sq"
  refine st_if (b := decide (k = 5)) (by walk_at "pu") (fun e => ?_) (fun e => ?_)
  · have e := of_decide_eq_true e
    refine ⟨small (by show 2 ≤ 1000; decide), fun l nl => ⟨_, rfl, _, _, rfl, rfl, (by show (0 : Int) < 2; decide), ?_⟩⟩
    have h2 : c % 2 = 0 ∨ c % 2 = 1 := by omega
    have s1 := same_new nl (.lst [V.int 0, V.int 399])
    rcases h2 with h2 | h2
    · exact ⟨l, _, _, .int 0, rfl, rfl, SqL.of upd_same, by rw [h2]; rfl, q _ _ s1 (.inl ⟨decide_eq_true (by omega), 0, rfl, by decide⟩)⟩
    · exact ⟨l, _, _, .int 399, rfl, rfl, SqL.of upd_same, by rw [h2]; rfl, q _ _ s1 (.inl ⟨decide_eq_true (by omega), 399, rfl, by decide⟩)⟩
  have e1 := of_decide_eq_false e
  have hk : decide (k < 6) = false := decide_eq_false (by omega)
  rw [hk] at q
  walk_at "sq"
  refine st_if (b := decide (k = 6)) (by walk_at "pu") (fun e => ?_) (fun e => ?_)
  · walk_at "sq"
    exact st_ret (by walk_at "pu") (q _ H (Same.refl _) (.inr ⟨rfl, .inl ⟨_, rfl, .inl (by omega)⟩⟩))
  walk_at "sq"
  refine st_if (b := decide (k = 7)) (by walk_at "pu") (fun e => ?_) (fun e => ?_)
  · walk_at "sq"
    exact st_ret (by walk_at "pu") (q _ H (Same.refl _) (.inr ⟨rfl, .inl ⟨_, rfl, .inr (by omega)⟩⟩))
  walk_at "sq"
  refine st_if (b := decide (k = 8)) (by walk_at "pu") (fun e => ?_) (fun e => ?_)
  · walk_at "sq"
    exact st_ret (by walk_at "pu") (q _ H (Same.refl _) (.inr ⟨rfl, .inr (.inl ⟨_, rfl⟩)⟩))
  walk_at "sq"
  refine ⟨Nat.zero_le _, fun l1 n1 => ⟨small (by show 1 ≤ 1000; decide), fun l2 n2 => ⟨small (by show 1 ≤ 1000; decide), fun l3 n3 => ⟨small (by show 6 ≤ 1000; decide), fun l4 n4 => ⟨_, rfl, _, _, rfl, rfl, (by show (0 : Int) < 6; decide), ?_⟩⟩⟩⟩⟩
  have d1 := Int.emod_nonneg c (show (6 : Int) ≠ 0 by decide)
  have d2 := Int.emod_lt_of_pos c (show (0 : Int) < 6 by decide)
  have s1 := same_new n1 (.lst [])
  have s2 := same_new n2 (.lst [V.int 3])
  have s3 := same_new n3 (.tup [V.int 2])
  have s4 := same_new n4 (.lst [V.non, V.str "7", V.str "", V.ref l1, V.ref l2, V.ref l3])
  have S := ((s1.trans s2).trans s3).trans s4
  have hb : ∀ {T : String} {x : V}, TyOf K (upd (upd (upd (upd H l1 (.lst [])) l2 (.lst [V.int 3])) l3 (.tup [V.int 2])) l4 (.lst [V.non, V.str "7", V.str "", V.ref l1, V.ref l2, V.ref l3])) x (.type T) → PySem.W.kitOne K (.type T) (.type "int") = some false → Q x (upd (upd (upd (upd H l1 (.lst [])) l2 (.lst [V.int 3])) l3 (.tup [V.int 2])) l4 (.lst [V.non, V.str "7", V.str "", V.ref l1, V.ref l2, V.ref l3])) := fun ty k => q _ _ S (.inr ⟨rfl, .inr (.inr ⟨_, ty, k⟩)⟩)
  have h6 : c % 6 = 0 ∨ c % 6 = 1 ∨ c % 6 = 2 ∨ c % 6 = 3 ∨ c % 6 = 4 ∨ c % 6 = 5 := by omega
  rcases h6 with h | h | h | h | h | h
  · exact ⟨l4, _, _, .non, rfl, rfl, SqL.of upd_same, by rw [h]; rfl, hb .non (kit_no K (by decide +kernel) (by decide +kernel))⟩
  · exact ⟨l4, _, _, .str "7", rfl, rfl, SqL.of upd_same, by rw [h]; rfl, hb (.str _) (kit_no K (by decide +kernel) (by decide +kernel))⟩
  · exact ⟨l4, _, _, .str "", rfl, rfl, SqL.of upd_same, by rw [h]; rfl, hb (.str _) (kit_no K (by decide +kernel) (by decide +kernel))⟩
  · exact ⟨l4, _, _, .ref l1, rfl, rfl, SqL.of upd_same, by rw [h]; rfl, hb (.lst (s4 _ _ (s3 _ _ (s2 _ _ upd_same)))) (kit_no K (by decide +kernel) (by decide +kernel))⟩
  · exact ⟨l4, _, _, .ref l2, rfl, rfl, SqL.of upd_same, by rw [h]; rfl, hb (.lst (s4 _ _ (s3 _ _ upd_same))) (kit_no K (by decide +kernel) (by decide +kernel))⟩
  · exact ⟨l4, _, _, .ref l3, rfl, rfl, SqL.of upd_same, by rw [h]; rfl, hb (.tup (s4 _ _ upd_same)) (kit_no K (by decide +kernel) (by decide +kernel))⟩
theorem ok_spoiled (T : Txt K mg t) (G_law_cell_at : FnOk P w K mg base CX0 1 t.a_law_cell_at t.d_law_cell_at ["_law_script", "_law_k"] (sp_cell K)) : FnOk P w K mg base CX0 2 t.a_law_spoiled t.d_law_spoiled ["_law_script", "_law_row"] (sp_spoiled K) := by
  refine T.f_law_spoiled.fn.ok sc_law_spoiled (fun vs H Q E h => ?_) (fun cdv A outer s H vs Q E hr h => ?_)
  · obtain ⟨a, b, ns, ms, rfl, _⟩ := h
    rfl
  obtain ⟨a, b, ns, ms, rfl, hS, hb, hl, q⟩ := h
  refine ⟨_, (pss_cons (ps_set (i := 2) sc_law_spoiled.nd rfl (Or.inl rfl) (pe_call G_law_cell_at (hr.mono (by decide)) rfl T.f_law_cell_at.mg T.f_law_cell_at.fn.kp T.f_law_cell_at.bd .nil pass0 (pa_cons (pv 0) (pa_cons pe_int pa_nil))))
    (pss_cons (ps_set (i := 3) sc_law_spoiled.nd rfl (Or.inl rfl) (pe_call G_law_cell_at (hr.mono (by decide)) rfl T.f_law_cell_at.mg T.f_law_cell_at.fn.kp T.f_law_cell_at.bd .nil pass0 (pa_cons (pv 0) (pa_cons pe_int pa_nil))))
    (pss_cons (ps_set (i := 4) sc_law_spoiled.nd rfl (Or.inl rfl) (pe_op op_mod (pe_call G_law_cell_at (hr.mono (by decide)) rfl T.f_law_cell_at.mg T.f_law_cell_at.fn.kp T.f_law_cell_at.bd .nil pass0 (pa_cons (pv 0) (pa_cons pe_int pa_nil))) (pe_op op_add (pe_callB call_len_seq rfl T.b_len PySem.boot_len (pa_cons (pv 1) pa_nil)) pe_int)))
    (pss_cons (ps_set (i := 5) sc_law_spoiled.nd rfl (Or.inl rfl) (pe_op op_mod (pv 2) pe_int))
    (pss_cons (ps_set (i := 6) sc_law_spoiled.nd rfl (Or.inl rfl) (pe_lst pa_nil))
    (pss_cons (ps_if (pt_cmpR op_eq (pv 5) pe_int (nomark _)) (pss_one (ps_set (i := 6) sc_law_spoiled.nd rfl (Or.inl rfl) (pe_lst (pa_cons (pe_op op_add pe_int (pe_op op_mod (pv 3) (pe_op op_pow pe_int pe_int))) pa_nil)))) pss_nil)
    (pss_cons (ps_if (pt_cmpR op_eq (pv 5) pe_int (nomark _)) (pss_one (ps_set (i := 6) sc_law_spoiled.nd rfl (Or.inl rfl) (pe_lst (pa_cons (pe_op op_sub (pe_un un_neg pe_int) (pe_op op_mod (pv 3) (pe_op op_pow pe_int pe_int))) pa_nil)))) pss_nil)
    (pss_cons (ps_if (pt_cmpR op_eq (pv 5) pe_int (nomark _)) (pss_one (ps_set (i := 6) sc_law_spoiled.nd rfl (Or.inl rfl) (pe_op op_cat (pe_op op_cat (pe_lst (pa_cons pe_int pa_nil)) (pe_op op_rep (pe_lst (pa_cons pe_int pa_nil)) (pe_op op_mod (pv 3) pe_int))) (pe_lst (pa_cons pe_int pa_nil))))) pss_nil)
    (pss_cons (ps_if (pt_cmpR op_eq (pv 5) pe_int (nomark _)) (pss_one (ps_set (i := 6) sc_law_spoiled.nd rfl (Or.inl rfl) (pe_op op_cat (pe_op op_cat (pe_lst (pa_cons (pe_un un_neg pe_int) pa_nil)) (pe_op op_rep (pe_lst (pa_cons pe_int pa_nil)) (pe_op op_mod (pv 3) pe_int))) (pe_lst (pa_cons (pe_un un_neg pe_int) pa_nil))))) pss_nil)
    (pss_cons (ps_if (pt_cmpR op_eq (pv 5) pe_int (nomark _)) (pss_one (ps_set (i := 6) sc_law_spoiled.nd rfl (Or.inl rfl) (pe_lst (pa_cons (pe_op op_sub (pe_op op_mod (pv 3) pe_int) pe_int) pa_nil)))) pss_nil)
    (pss_cons (ps_if (pt_cmpR op_eq (pv 5) pe_int (nomark _)) (pss_cons (ps_set (i := 4) sc_law_spoiled.nd rfl (Or.inl rfl) (pe_callB call_len_seq rfl T.b_len PySem.boot_len (pa_cons (pv 1) pa_nil)))
    (pss_one (ps_set (i := 6) sc_law_spoiled.nd rfl (Or.inl rfl) (pe_op op_rep (pe_lst (pa_cons pe_int pa_nil)) (pe_op op_add pe_int (pe_op op_mod (pv 3) pe_int)))))) pss_nil)
    (pss_one (ps_ret (pe_op op_cat (pe_op op_cat (pe_slice sl_list (pv 1) po_none (po_some (pv 4))) (pv 6)) (pe_slice sl_list (pv 1) (po_some (pv 4)) po_none))))))))))))))), ?_⟩
  walk_at "sq"
  refine st_te ⟨_, rfl, a, ns, 0, rfl, hS, Int.le_refl 0, fun v0 => ?_⟩
  walk_at "sq"
  refine st_te ⟨_, rfl, a, ns, 1, rfl, hS, by decide, fun v1 => ?_⟩
  walk_at "sq"
  refine st_te ⟨_, rfl, a, ns, 2, rfl, hS, by decide, fun v2 => ⟨_, rfl, b, _, rfl, .inl (SqL.of hb), ?_⟩⟩
  rw [ints_len]
  obtain ⟨kk, ek⟩ : ∃ k : Nat, v2 % (((ms.length : Nat) : Int) + 1) = (k : Int) := ⟨(v2 % (((ms.length : Nat) : Int) + 1)).toNat, by have := Int.emod_nonneg v2 (show (((ms.length : Nat) : Int) + 1) ≠ 0 by omega); omega⟩
  refine ⟨_, _, rfl, rfl, _, _, rfl, rfl, (by show (0 : Int) < ((ms.length : Nat) : Int) + 1; omega), ?_⟩
  show gName 4 (.int (v2 % (((ms.length : Nat) : Int) + 1))) _ _ _
  rw [ek]
  walk_at "sq"
  refine st_set (by walk_at "pu") ?_
  walk_at "sq"
  refine st_new fun m0 n0 => ?_
  have n1 := Int.emod_nonneg v1 (show (9 : Int) ≠ 0 by decide)
  have n2 := Int.emod_lt_of_pos v1 (show (0 : Int) < 9 by decide)
  have hp : (0 : Int) < 10 ^ (18 : Int).toNat := by decide
  generalize hw : v0 % 8 = wy at *
  let R : St → Hp → Prop := fun σ' H' => ∃ (k : Nat) (m : Addr) (fs : List Int), σ' = [some (.ref a), some (.ref b), some (.int v0), some (.int v1), some (.int (k : Nat)), some (.int wy), some (.ref m)] ∧ Same H H' ∧ H' m = some (.lst (iv fs)) ∧ fs.length ≤ 20
  walk_at "sq"
  refine st_ifR (by walk_at "pu") R (fun σ1 H1 ⟨k1, m1, f1, e1, s1, h1, l1⟩ => ?_) (fun rest _ => ?_) (fun rest _ => rest _ _ ⟨kk, m0, [], rfl, same_new n0 _, upd_same, by decide⟩)
  rotate_left
  · walk_at "sq"
    refine st_mk (mk_lst (fs := [3 + v1 % 10 ^ (18 : Int).toNat]) (fun _ => pu_cons (by walk_at "pu") pu_nil) (by show 1 ≤ 100000; decide)) fun p H' np s' h' => rest _ _ ⟨kk, p, _, rfl, (same_new n0 _).trans s', h', (by show 1 ≤ 20; decide)⟩
  subst e1
  walk_at "sq"
  refine st_ifR (by walk_at "pu") R (fun σ2 H2 ⟨k2, m2, f2, e2, s2, h2, l2⟩ => ?_) (fun rest _ => ?_) (fun rest _ => rest _ _ ⟨_, _, _, rfl, s1, h1, l1⟩)
  rotate_left
  · walk_at "sq"
    refine st_mk (mk_lst (fs := [-2 - v1 % 10 ^ (18 : Int).toNat]) (fun _ => pu_cons (by walk_at "pu") pu_nil) (by show 1 ≤ 100000; decide)) fun p H' np s' h' => rest _ _ ⟨_, p, _, rfl, s1.trans s', h', (by show 1 ≤ 20; decide)⟩
  subst e2
  walk_at "sq"
  refine st_ifR (by walk_at "pu") R (fun σ3 H3 ⟨k3, m3, f3, e3, s3, h3, l3⟩ => ?_) (fun rest _ => ?_) (fun rest _ => rest _ _ ⟨_, _, _, rfl, s2, h2, l2⟩)
  rotate_left
  · walk_at "sq"
    refine st_mk (mk_cat (mk_cat (mk_lst (fs := [2]) (fun _ => pu_cons (by walk_at "pu") pu_nil) (by decide)).ls (mk_rep (c := 1) (k := v1 % 9) (mk_lst (fs := [1]) (fun _ => pu_cons (by walk_at "pu") pu_nil) (by decide)).ls (fun _ => by walk_at "pu") (by omega) (by omega)).ls (by simp; omega)).ls (mk_lst (fs := [2]) (fun _ => pu_cons (by walk_at "pu") pu_nil) (by decide)).ls (by simp; omega)) fun p H' np s' h' => rest _ _ ⟨_, p, _, rfl, s2.trans s', h', by simp; omega⟩
  subst e3
  walk_at "sq"
  refine st_ifR (by walk_at "pu") R (fun σ4 H4 ⟨k4, m4, f4, e4, s4, h4, l4⟩ => ?_) (fun rest _ => ?_) (fun rest _ => rest _ _ ⟨_, _, _, rfl, s3, h3, l3⟩)
  rotate_left
  · walk_at "sq"
    refine st_mk (mk_cat (mk_cat (mk_lst (fs := [-1]) (fun _ => pu_cons (by walk_at "pu") pu_nil) (by decide)).ls (mk_rep (c := 0) (k := v1 % 9) (mk_lst (fs := [0]) (fun _ => pu_cons (by walk_at "pu") pu_nil) (by decide)).ls (fun _ => by walk_at "pu") (by omega) (by omega)).ls (by simp; omega)).ls (mk_lst (fs := [-1]) (fun _ => pu_cons (by walk_at "pu") pu_nil) (by decide)).ls (by simp; omega)) fun p H' np s' h' => rest _ _ ⟨_, p, _, rfl, s3.trans s', h', by simp; omega⟩
  subst e4
  walk_at "sq"
  refine st_ifR (by walk_at "pu") R (fun σ5 H5 ⟨k5, m5, f5, e5, s5, h5, l5⟩ => ?_) (fun rest _ => ?_) (fun rest _ => rest _ _ ⟨_, _, _, rfl, s4, h4, l4⟩)
  rotate_left
  · walk_at "sq"
    refine st_mk (mk_lst (fs := [v1 % 4 - 1]) (fun _ => pu_cons (by walk_at "pu") pu_nil) (by show 1 ≤ 100000; decide)) fun p H' np s' h' => rest _ _ ⟨_, p, _, rfl, s4.trans s', h', (by show 1 ≤ 20; decide)⟩
  subst e5
  walk_at "sq"
  refine st_ifR (by walk_at "pu") R (fun σ6 H6 ⟨k6, m6, f6, e6, s6, h6, l6⟩ => ?_) (fun rest _ => ?_) (fun rest _ => rest _ _ ⟨_, _, _, rfl, s5, h5, l5⟩)
  rotate_left
  · have hb5 := s5 _ _ hb
    walk_at "sq"
    refine st_set (v := .int (ms.length : Nat)) (by have z := pu_len (K := K) (ta := tVar 1) (pu_var (σ := [some (.ref a), some (.ref b), some (.int v0), some (.int v1), some (.int (k5 : Nat)), some (.int wy), some (.ref m5)]) rfl) (SqL.of hb5); rw [ints_len] at z; exact z) ?_
    walk_at "sq"
    refine st_mk (mk_rep (c := 0) (k := 1 + v1 % 9) (mk_lst (fs := [0]) (fun _ => pu_cons (by walk_at "pu") pu_nil) (by decide)).ls (fun _ => by walk_at "pu") (by omega) (by omega)) fun p H' np s' h' => rest _ _ ⟨_, p, _, rfl, s5.trans s', h', by simp; omega⟩
  subst e6
  have hb6 := s6 _ _ hb
  walk_at "sq"
  refine st_retmk (fs := ms.take k6 ++ f6 ++ ms.drop k6) (mk_cat (mk_cat (mk_sl (K := K) (fs := ms) (gs := ms.take k6) (ls_var rfl hb6) (fun _ _ => po_c0) (po_c1 fun _ => by walk_at "pu") (by rw [cut_to, ints_take])).ls (ls_var rfl h6) (by simp; omega)).ls
    (mk_sl (K := K) (fs := ms) (gs := ms.drop k6) (ls_var rfl hb6) (po_c1 fun _ => by walk_at "pu") (fun _ _ => po_c0) (by rw [cut_from, ints_drop])).ls (by simp; omega)) fun p H' np s' h' => q p _ H' (s6.free np) (s6.trans s') h' (by simp; omega)
end

noncomputable def sp_law (K : PySem.W.Frag) : Sp := fun vs H Q _ => ∃ (a : Addr) (ns : List Int), vs = [.ref a] ∧ SqL K H a (ns.map V.int) ∧ ns.length ≤ 63 ∧ ∀ H', Q (.bl true) H'
section
variable {P : Program} {w : World} {K : PySem.W.Frag} {mg : Str → Option Value} {base : Heap} {t : Adr}
theorem ok_law (T : Txt K mg t) (G_law_made_calm : FnOk P w K mg base CX0 1 t.a_law_made_calm t.d_law_made_calm ["_law_figures"] (sp_made K)) (G_law_spoiled : FnOk P w K mg base CX0 2 t.a_law_spoiled t.d_law_spoiled ["_law_script", "_law_row"] (sp_spoiled K))
    (G_law_cell_at : FnOk P w K mg base CX0 1 t.a_law_cell_at t.d_law_cell_at ["_law_script", "_law_k"] (sp_cell K)) (G_law_place : FnOk P w K mg base CX0 1 t.a_law_place t.d_law_place ["_law_way", "_law_cell"] (sp_place K))
    (G_law_all_told : FnOk P w K mg base CX0 10 t.a_law_all_told t.d_law_all_told ["_law_row", "_law_place_here", "_law_good"] (sp_all K)) (G_changes : FnOk P w K mg base CX0 6 t.a_changes t.d_changes ["row", "place", "up"] (sp_changes K))
    (G_law_counter : FnOk P w K mg base CX0 9 t.a_law_counter t.d_law_counter ["_law_place_here", "_law_good", "_law_near", "_law_up"] (sp_counter K)) : FnOk P w K mg base CX0 11 t.a_law t.d_law ["_law_script"] (sp_law K) := by
  refine T.f_law.fn.ok sc_law (fun vs H Q E h => ?_) (fun cdv A outer s H vs Q E hr h => ?_)
  · obtain ⟨a, ns, rfl, _⟩ := h
    rfl
  obtain ⟨a, ns, rfl, hS, h63, q⟩ := h
  refine ⟨_, (pss_cons (ps_set (i := 1) sc_law.nd rfl (Or.inl rfl) (pe_call G_law_made_calm (hr.mono (by decide)) rfl T.f_law_made_calm.mg T.f_law_made_calm.fn.kp T.f_law_made_calm.bd .nil pass0 (pa_cons (pe_compF (Nt := ["_law_cell"]) [] [] rfl rfl (by decide +kernel) (by decide +kernel) rfl (by decide +kernel) rfl (pi_list (pe_slice sl_list (pv 0) (po_some pe_int) (po_some pe_int))) (fun _ _ _ _ _ => (pg_name (i := 0) (show List.Nodup ((["_law_cell"] : List Str) ++ ([] : List Str) : List Str) by decide +kernel) rfl (Or.inl rfl))) (fun _ _ _ _ _ => (pe_op op_sub (pe_op op_mod (pv 0) pe_int) pe_int))) pa_nil)))
    (pss_cons (ps_set (i := 2) sc_law.nd rfl (Or.inl rfl) (pe_call G_law_spoiled (hr.mono (by decide)) rfl T.f_law_spoiled.mg T.f_law_spoiled.fn.kp T.f_law_spoiled.bd .nil pass0 (pa_cons (pv 0) (pa_cons (pv 1) pa_nil))))
    (pss_cons (ps_set (i := 3) sc_law.nd rfl (Or.inl rfl) (pe_call G_law_cell_at (hr.mono (by decide)) rfl T.f_law_cell_at.mg T.f_law_cell_at.fn.kp T.f_law_cell_at.bd .nil pass0 (pa_cons (pv 0) (pa_cons pe_int pa_nil))))
    (pss_cons (ps_set (i := 4) sc_law.nd rfl (Or.inl rfl) (pe_op op_mod (pv 3) pe_int))
    (pss_cons (ps_set (i := 5) sc_law.nd rfl (Or.inl rfl) (pe_call G_law_place (hr.mono (by decide)) rfl T.f_law_place.mg T.f_law_place.fn.kp T.f_law_place.bd .nil pass0 (pa_cons (pv 4) (pa_cons (pe_call G_law_cell_at (hr.mono (by decide)) rfl T.f_law_cell_at.mg T.f_law_cell_at.fn.kp T.f_law_cell_at.bd .nil pass0 (pa_cons (pv 0) (pa_cons pe_int pa_nil))) pa_nil))))
    (pss_cons (ps_if (pt_not (pt_val (pe_call G_law_all_told (hr.mono (by decide)) rfl T.f_law_all_told.mg T.f_law_all_told.fn.kp T.f_law_all_told.bd .nil pass0 (pa_cons (pv 2) (pa_cons (pv 5) (pa_cons (pe_cmpR op_lt (pv 4) pe_int (nomark _)) pa_nil)))))) (pss_one (ps_ret pe_bl)) pss_nil)
    (pss_cons (ps_if (PW.pt (pw_and (pt_cmpR op_lt (pv 4) pe_int (nomark _)) (pw_and1 (pt_cmpR (op_neD hr.units) (pe_call G_changes (hr.mono (by decide)) rfl T.f_changes.mg T.f_changes.fn.kp T.f_changes.bd1 dv_true pass0 (pa_cons (pe_callTy call_list_of rfl T.b_list PyProof.Rows.boot_list (pa_cons (pv 1) pa_nil)) (pa_cons (pv 5) pa_nil))) (pe_call G_changes (hr.mono (by decide)) rfl T.f_changes.mg T.f_changes.fn.kp T.f_changes.bd .nil pass0 (pa_cons (pe_callTy call_list_of rfl T.b_list PyProof.Rows.boot_list (pa_cons (pv 1) pa_nil)) (pa_cons (pv 5) (pa_cons pe_bl pa_nil)))) (nomark _))))) (pss_one (ps_ret pe_bl)) pss_nil)
    (pss_cons (ps_expr (pe_bm0 PySem.F.plainAttrs_list PySem.F.slot_list_clear PySem.F.type_list_clear mt_clear (pv 2)))
    (pss_cons (ps_expr (pe_bm PySem.F.plainAttrs_list PySem.F.slot_list_extend PySem.F.type_list_extend mt_extend (pv 2) (pa_cons (pv 1) pa_nil)))
    (pss_cons (ps_set (i := 6) sc_law.nd rfl (Or.inl rfl) (pe_op op_mod (pe_op op_fdiv (pv 3) pe_int) pe_int))
    (pss_cons (ps_if (pt_not (pt_val (pe_call G_law_all_told (hr.mono (by decide)) rfl T.f_law_all_told.mg T.f_law_all_told.fn.kp T.f_law_all_told.bd .nil pass0 (pa_cons (pv 2) (pa_cons (pv 6) (pa_cons pe_bl pa_nil)))))) (pss_one (ps_ret pe_bl)) pss_nil)
    (pss_one (ps_ret (pe_call G_law_counter (hr.mono (by decide)) rfl T.f_law_counter.mg T.f_law_counter.fn.kp T.f_law_counter.bd .nil pass0 (pa_cons (pv 5) (pa_cons (pe_cmpR op_lt (pv 4) pe_int (nomark _)) (pa_cons (pv 6) (pa_cons (pe_cmpR op_eq (pe_op op_mod (pe_op op_fdiv (pv 3) pe_int) pe_int) pe_int (nomark _)) pa_nil)))))))))))))))))), ?_⟩
  walk_at "sq"
  refine st_te ⟨_, rfl, _, rfl, _, rfl, a, _, rfl, hS, fun c nc => ?_⟩
  have ec : cutV (iv ns) (some 5) (some 63) = iv ((ns.drop 5).take 58) := by
    have := cut_mid (iv ns) 5 63 (by decide)
    rw [ints_drop, ints_take] at this
    exact this
  rw [ec]
  have hcl : ((ns.drop 5).take 58).length ≤ 58 := by rw [List.length_take]; omega
  generalize (ns.drop 5).take 58 = cs at *
  have s1 := same_new nc (.lst (iv cs))
  have c1 : upd H c (.lst (iv cs)) c = some (.lst (iv cs)) := upd_same
  generalize upd H c (.lst (iv cs)) = H1 at *
  refine ⟨c, rfl, ⟨_, SqL.of c1⟩, fun r nr => comp_listF (g := gName 0) (Q := fun x H1 => sp_made K [x] H1 (fun y H2 => gName 1 y _ H2 _) E0) (K := K) (a := c) (xs := iv cs) (fun i H3 => Same H1 H3 ∧ ∃ ys, H3 r = some (.lst (iv ys)) ∧ ys.length = i ∧ ∀ y ∈ ys, -1 ≤ y ∧ y ≤ 2) ⟨same_new nr _, [], upd_same, rfl, fun y hy => (nomatch hy)⟩ (fun i H3 _ h => SqL.of (h.1 _ _ c1)) ?_ ?_⟩
  · rintro i x H3 hx ⟨sm3, ys, h3, hy, hb⟩
    obtain ⟨z, hz, rfl⟩ := ints_get hx
    have hi := get_lt hz
    have z1 := Int.emod_nonneg z (show (4 : Int) ≠ 0 by decide)
    have z2 := Int.emod_lt_of_pos z (show (0 : Int) < 4 by decide)
    refine ⟨_, rfl, _, _, rfl, rfl, (by show (0 : Int) < 4; decide), _, _, rfl, rfl, iv ys, h3, small1000 (by rw [ints_len]; omega), same_upd nr sm3 _, ys ++ [_], by rw [upd_same, ← ints_app]; rfl, by rw [List.length_append, hy]; rfl, fun y hyy => ?_⟩
    rcases List.mem_append.mp hyy with hyy | hyy
    · exact hb y hyy
    · rw [List.mem_singleton.mp hyy]; omega
  rintro H3 ⟨sm3, ys, h3, hy, hb⟩
  rw [ints_len] at hy
  have S3 := s1.trans sm3
  refine ⟨r, ys, rfl, SqL.of h3, by omega, hb, fun rr fs H4 n4 s4 h4 l4 cf => ?_⟩
  have S4 := S3.trans s4
  have hfl : fs.length ≤ 58 := by omega
  clear s1 c1 sm3 h3 hy hb S3 s4 n4 l4 nr nc ec
  walk_at "sq"
  refine st_te ⟨_, rfl, _, rfl, a, rr, ns, fs, rfl, S4.seq hS, h4, by omega, fun sp gs H5 n5 s5 h5 l5 => ?_⟩
  have S5 := S4.trans s5
  have nsr : rr ≠ sp := fun e => by rw [← e, h4] at n5; cases n5
  replace h4 := s5 _ _ h4
  clear s5 n5 S4
  walk_at "sq"
  refine st_te ⟨_, rfl, a, ns, 3, rfl, S5.seq hS, by decide, fun v3 => ?_⟩
  walk_at "sq"
  refine st_set (v := .int (v3 % 10)) (by walk_at "pu") ?_
  have w1 := Int.emod_nonneg v3 (show (10 : Int) ≠ 0 by decide)
  have w2 := Int.emod_lt_of_pos v3 (show (0 : Int) < 10 by decide)
  generalize v3 % 10 = wy at *
  walk_at "sq"
  refine st_te ⟨_, rfl, _, rfl, a, ns, 4, rfl, S5.seq hS, by decide, fun v4 => ⟨wy, v4, rfl, w1, by omega, fun x H6 s6 hP => ?_⟩⟩
  replace h4 := s6 _ _ h4
  replace h5 := s6 _ _ h5
  clear S5 s6 hS
  walk_at "sq"
  refine st_ifQ ⟨_, rfl, _, rfl, _, rfl, _, _, rfl, rfl, sp, gs, x, decide (wy < 6), rfl, h5, by omega, hP, fun H7 s7 => ⟨_, rfl, iteF ?_⟩⟩
  replace h4 := s7 _ _ h4
  replace h5 := s7 _ _ h5
  replace hP := hP.same s7
  clear s7
  walk_at "sq"
  refine st_ifT (fun σ' H' => σ' = [some (.ref a), some (.ref rr), some (.ref sp), some (.int v3), some (.int wy), some x, none] ∧ Same H7 H') (fun σ8 H8 ⟨e8, s8⟩ => ?_) (fun rest => ?_)
  rotate_left
  · refine ⟨_, rfl, _, _, rfl, rfl, _, rfl, ?_⟩
    refine ite2 (fun e => ?_) (fun e => ?_)
    · rcases hP with ⟨_, p, rfl, hp⟩ | ⟨z, _⟩
      · refine ⟨_, rfl, rr, _, rfl, .inl (SqL.of h4), fun l1 n1 => ⟨_, rfl, l1, fs, p, true, rfl, SqL.of upd_same, by omega, cf, hp, fun c1 H8 nc1 s8 k8 => ?_⟩⟩
        have t8 := (same_new n1 (.lst (iv fs))).trans s8
        refine ⟨_, rfl, rr, _, rfl, .inl (SqL.of (t8 _ _ h4)), fun l2 n2 => ⟨_, rfl, l2, fs, p, true, rfl, SqL.of upd_same, by omega, cf, hp, fun c2 H9 nc2 s9 k9 => ?_⟩⟩
        have t9 := (same_new n2 (.lst (iv fs))).trans s9
        refine ⟨_, _, (k8.same t9).dat, k9.dat, shaped_dLT _, shaped_dLT _, _, rfl, ?_⟩
        rw [dLT_eq, decide_eq_true rfl]
        exact iteF (rest _ _ ⟨rfl, t8.trans t9⟩)
      · rw [e] at z; cases z
    · exact iteF (rest _ _ ⟨rfl, Same.refl _⟩)
  subst e8
  replace h4 := s8 _ _ h4
  replace h5 := s8 _ _ h5
  replace hP := hP.same s8
  clear s8
  walk_at "sq"
  refine st_clear (K := K) (l := sp) (by walk_at "pu") h5 ?_
  have h9 : upd H8 sp (.lst []) rr = some (.lst (iv fs)) := by rw [upd_ne nsr]; exact h4
  have g9 : upd H8 sp (.lst []) sp = some (.lst []) := upd_same
  have P9 : Pl K (upd H8 sp (.lst [])) x (decide (wy < 6)) := hP.upl h5
  generalize upd H8 sp (.lst []) = H9 at *
  clear h4 h5 hP
  walk_at "sq"
  refine ⟨_, rfl, .inl ⟨rfl, _, SqL.of g9⟩, _, rfl, sp, rr, _, _, rfl, rfl, g9, h9, big (by rw [ints_len]; show 0 + fs.length ≤ 100000; omega), ?_⟩
  have g10 : upd H9 sp (.lst ([] ++ iv fs)) sp = some (.lst (iv fs)) := upd_same
  have P10 : Pl K (upd H9 sp (.lst ([] ++ iv fs))) x (decide (wy < 6)) := P9.upl g9
  generalize upd H9 sp (.lst ([] ++ iv fs)) = H10 at *
  clear g9 P9 h9
  obtain ⟨nr, en⟩ : ∃ k : Nat, v3 / 10 % 400 = (k : Int) := ⟨(v3 / 10 % 400).toNat, by have := Int.emod_nonneg (v3 / 10) (show (400 : Int) ≠ 0 by decide); omega⟩
  have hnr : nr ≤ 399 := by have := Int.emod_lt_of_pos (v3 / 10) (show (0 : Int) < 400 by decide); omega
  walk_at "sq"
  refine st_set (v := .int (nr : Nat)) (by rw [← en]; walk_at "pu") ?_
  walk_at "sq"
  refine st_ifQ ⟨_, rfl, _, rfl, sp, fs, .int (nr : Nat), true, rfl, g10, by omega, .inl ⟨rfl, nr, rfl, hnr⟩, fun H11 s11 => ⟨_, rfl, iteF ?_⟩⟩
  have P11 := P10.same s11
  walk_at "sq"
  exact ⟨_, rfl, _, rfl, _, _, rfl, rfl, _, rfl, _, rfl, _, _, rfl, rfl, ⟨by decide, by decide⟩, _, _, rfl, rfl, (by show (0 : Int) < 2; decide), rfl, x, decide (wy < 6), nr, _, rfl, hnr, P11, fun H' => q H'⟩
end
theorem txt_mk {K : PySem.W.Frag} {h : Heap} {mg : Str → Option Value} {f_is_whole : Addr} {od_is_whole an_is_whole : Option Addr} {sl_is_whole : Array (Option Value)} {oc_is_whole kV_is_whole dc_is_whole pm_is_whole cd_is_whole ct_is_whole : Value} {f_is_figure : Addr} {od_is_figure an_is_figure : Option Addr} {sl_is_figure : Array (Option Value)} {oc_is_figure kV_is_figure dc_is_figure pm_is_figure cd_is_figure ct_is_figure : Value} {f_worth : Addr} {od_worth an_worth : Option Addr} {sl_worth : Array (Option Value)} {oc_worth kV_worth dc_worth pm_worth cd_worth ct_worth : Value} {f_twos_are_apart : Addr} {od_twos_are_apart an_twos_are_apart : Option Addr} {sl_twos_are_apart : Array (Option Value)} {oc_twos_are_apart kV_twos_are_apart dc_twos_are_apart pm_twos_are_apart cd_twos_are_apart ct_twos_are_apart : Value} {f_mirrored : Addr} {od_mirrored an_mirrored : Option Addr} {sl_mirrored : Array (Option Value)} {oc_mirrored kV_mirrored dc_mirrored pm_mirrored cd_mirrored ct_mirrored : Value} {f_is_calm : Addr} {od_is_calm an_is_calm : Option Addr} {sl_is_calm : Array (Option Value)} {oc_is_calm kV_is_calm dc_is_calm pm_is_calm cd_is_calm ct_is_calm : Value} {f_refuse_if_not_calm : Addr} {od_refuse_if_not_calm an_refuse_if_not_calm : Option Addr} {sl_refuse_if_not_calm : Array (Option Value)} {oc_refuse_if_not_calm kV_refuse_if_not_calm dc_refuse_if_not_calm pm_refuse_if_not_calm cd_refuse_if_not_calm ct_refuse_if_not_calm : Value} {f_settled : Addr} {od_settled an_settled : Option Addr} {sl_settled : Array (Option Value)} {oc_settled kV_settled dc_settled pm_settled cd_settled ct_settled : Value} {f_refuse_if_no_place : Addr} {od_refuse_if_no_place an_refuse_if_no_place : Option Addr} {sl_refuse_if_no_place : Array (Option Value)} {oc_refuse_if_no_place kV_refuse_if_no_place dc_refuse_if_no_place pm_refuse_if_no_place cd_refuse_if_no_place ct_refuse_if_no_place : Value} {f_mirror : Addr} {od_mirror an_mirror : Option Addr} {sl_mirror : Array (Option Value)} {oc_mirror kV_mirror dc_mirror pm_mirror cd_mirror ct_mirror : Value} {f_figure_at : Addr} {od_figure_at an_figure_at : Option Addr} {sl_figure_at : Array (Option Value)} {oc_figure_at kV_figure_at dc_figure_at pm_figure_at cd_figure_at ct_figure_at : Value} {f_seen : Addr} {od_seen an_seen : Option Addr} {sl_seen : Array (Option Value)} {oc_seen kV_seen dc_seen pm_seen cd_seen ct_seen : Value} {f_first_above : Addr} {od_first_above an_first_above : Option Addr} {sl_first_above : Array (Option Value)} {oc_first_above kV_first_above dc_first_above pm_first_above cd_first_above ct_first_above : Value} {f_finds_two_below : Addr} {od_finds_two_below an_finds_two_below : Option Addr} {sl_finds_two_below : Array (Option Value)} {oc_finds_two_below kV_finds_two_below dc_finds_two_below pm_finds_two_below cd_finds_two_below ct_finds_two_below : Value} {f_grown : Addr} {od_grown an_grown : Option Addr} {sl_grown : Array (Option Value)} {oc_grown kV_grown dc_grown pm_grown cd_grown ct_grown : Value} {f_figures_behind : Addr} {od_figures_behind an_figures_behind : Option Addr} {sl_figures_behind : Array (Option Value)} {oc_figures_behind kV_figures_behind dc_figures_behind pm_figures_behind cd_figures_behind ct_figures_behind : Value} {f_step : Addr} {od_step an_step : Option Addr} {sl_step : Array (Option Value)} {oc_step kV_step dc_step pm_step cd_step ct_step : Value} {f_changes : Addr} {od_changes an_changes : Option Addr} {sl_changes : Array (Option Value)} {oc_changes kV_changes dc_changes pm_changes cd_changes ct_changes : Value} {f_put : Addr} {od_put an_put : Option Addr} {sl_put : Array (Option Value)} {oc_put kV_put dc_put pm_put cd_put ct_put : Value} {f_turned_back : Addr} {od_turned_back an_turned_back : Option Addr} {sl_turned_back : Array (Option Value)} {oc_turned_back kV_turned_back dc_turned_back pm_turned_back cd_turned_back ct_turned_back : Value} {f_added : Addr} {od_added an_added : Option Addr} {sl_added : Array (Option Value)} {oc_added kV_added dc_added pm_added cd_added ct_added : Value} {f_taken : Addr} {od_taken an_taken : Option Addr} {sl_taken : Array (Option Value)} {oc_taken kV_taken dc_taken pm_taken cd_taken ct_taken : Value} {f_joined : Addr} {od_joined an_joined : Option Addr} {sl_joined : Array (Option Value)} {oc_joined kV_joined dc_joined pm_joined cd_joined ct_joined : Value} {f_Counter___init__ : Addr} {od_Counter___init__ an_Counter___init__ : Option Addr} {sl_Counter___init__ : Array (Option Value)} {oc_Counter___init__ kV_Counter___init__ dc_Counter___init__ pm_Counter___init__ cd_Counter___init__ ct_Counter___init__ : Value} {f_Counter_add : Addr} {od_Counter_add an_Counter_add : Option Addr} {sl_Counter_add : Array (Option Value)} {oc_Counter_add kV_Counter_add dc_Counter_add pm_Counter_add cd_Counter_add ct_Counter_add : Value} {f_Counter_take : Addr} {od_Counter_take an_Counter_take : Option Addr} {sl_Counter_take : Array (Option Value)} {oc_Counter_take kV_Counter_take dc_Counter_take pm_Counter_take cd_Counter_take ct_Counter_take : Value} {f_Counter_carry_out : Addr} {od_Counter_carry_out an_Counter_carry_out : Option Addr} {sl_Counter_carry_out : Array (Option Value)} {oc_Counter_carry_out kV_Counter_carry_out dc_Counter_carry_out pm_Counter_carry_out cd_Counter_carry_out ct_Counter_carry_out : Value} {f_Counter_undo : Addr} {od_Counter_undo an_Counter_undo : Option Addr} {sl_Counter_undo : Array (Option Value)} {oc_Counter_undo kV_Counter_undo dc_Counter_undo pm_Counter_undo cd_Counter_undo ct_Counter_undo : Value} {f_Counter_figures : Addr} {od_Counter_figures an_Counter_figures : Option Addr} {sl_Counter_figures : Array (Option Value)} {oc_Counter_figures kV_Counter_figures dc_Counter_figures pm_Counter_figures cd_Counter_figures ct_Counter_figures : Value} {f_Counter_amount : Addr} {od_Counter_amount an_Counter_amount : Option Addr} {sl_Counter_amount : Array (Option Value)} {oc_Counter_amount kV_Counter_amount dc_Counter_amount pm_Counter_amount cd_Counter_amount ct_Counter_amount : Value} {f_Counter_many : Addr} {od_Counter_many an_Counter_many : Option Addr} {sl_Counter_many : Array (Option Value)} {oc_Counter_many kV_Counter_many dc_Counter_many pm_Counter_many cd_Counter_many ct_Counter_many : Value} {f_shown : Addr} {od_shown an_shown : Option Addr} {sl_shown : Array (Option Value)} {oc_shown kV_shown dc_shown pm_shown cd_shown ct_shown : Value} {f_law_cell_at : Addr} {od_law_cell_at an_law_cell_at : Option Addr} {sl_law_cell_at : Array (Option Value)} {oc_law_cell_at kV_law_cell_at dc_law_cell_at pm_law_cell_at cd_law_cell_at ct_law_cell_at : Value} {f_law_calm : Addr} {od_law_calm an_law_calm : Option Addr} {sl_law_calm : Array (Option Value)} {oc_law_calm kV_law_calm dc_law_calm pm_law_calm cd_law_calm ct_law_calm : Value} {f_law_made_calm : Addr} {od_law_made_calm an_law_made_calm : Option Addr} {sl_law_made_calm : Array (Option Value)} {oc_law_made_calm kV_law_made_calm dc_law_made_calm pm_law_made_calm cd_law_made_calm ct_law_made_calm : Value} {f_law_spoiled : Addr} {od_law_spoiled an_law_spoiled : Option Addr} {sl_law_spoiled : Array (Option Value)} {oc_law_spoiled kV_law_spoiled dc_law_spoiled pm_law_spoiled cd_law_spoiled ct_law_spoiled : Value} {f_law_place : Addr} {od_law_place an_law_place : Option Addr} {sl_law_place : Array (Option Value)} {oc_law_place kV_law_place dc_law_place pm_law_place cd_law_place ct_law_place : Value} {f_law_asked : Addr} {od_law_asked an_law_asked : Option Addr} {sl_law_asked : Array (Option Value)} {oc_law_asked kV_law_asked dc_law_asked pm_law_asked cd_law_asked ct_law_asked : Value} {f_law_kinds : Addr} {od_law_kinds an_law_kinds : Option Addr} {sl_law_kinds : Array (Option Value)} {oc_law_kinds kV_law_kinds dc_law_kinds pm_law_kinds cd_law_kinds ct_law_kinds : Value} {f_law_told : Addr} {od_law_told an_law_told : Option Addr} {sl_law_told : Array (Option Value)} {oc_law_told kV_law_told dc_law_told pm_law_told cd_law_told ct_law_told : Value} {f_law_all_told : Addr} {od_law_all_told an_law_all_told : Option Addr} {sl_law_all_told : Array (Option Value)} {oc_law_all_told kV_law_all_told dc_law_all_told pm_law_all_told cd_law_all_told ct_law_all_told : Value} {f_law_deed_told : Addr} {od_law_deed_told an_law_deed_told : Option Addr} {sl_law_deed_told : Array (Option Value)} {oc_law_deed_told kV_law_deed_told dc_law_deed_told pm_law_deed_told cd_law_deed_told ct_law_deed_told : Value} {f_law_undo_told : Addr} {od_law_undo_told an_law_undo_told : Option Addr} {sl_law_undo_told : Array (Option Value)} {oc_law_undo_told kV_law_undo_told dc_law_undo_told pm_law_undo_told cd_law_undo_told ct_law_undo_told : Value} {f_law_counter : Addr} {od_law_counter an_law_counter : Option Addr} {sl_law_counter : Array (Option Value)} {oc_law_counter kV_law_counter dc_law_counter pm_law_counter cd_law_counter ct_law_counter : Value} {f_law : Addr} {od_law an_law : Option Addr} {sl_law : Array (Option Value)} {oc_law kV_law dc_law pm_law cd_law ct_law : Value} {T_changes : Addr} {tc_changes : Value} {td_changes : Option Addr} {tn_changes : Nat} {ts_changes : Array (Option Value)} {C_CountError : Addr} {C_NotCalm : Addr} {C_NoPlace : Addr} {C_NothingDone : Addr} {C_NoText : Addr} {C_own : Addr} {gt_LAST_PLACE : Tok} {gt_SIGNS : Tok} (X : K.In h) (G : h.Ns mainGlobals mg)
    (n_own : PySem.W.nsIn K mainGlobals "Counter" = some (some (.ref C_own))) (pg_own : PySem.W.plainGet K C_own Str.empty = true) (hd_own : PySem.W.hasDictIn K C_own = true) (po_own : PySem.W.plainOver K C_own = true) (sa_own : PySem.W.findIn K (.ref C_own) "__setattr__" = some (some (.builtin "object.__setattr__"))) (mk_own : PySem.W.makesIn K C_own = true) (kc_own : PySem.W.keepIn K (.ref C_own) = true)
    (na_row : PySem.W.findIn K (.ref C_own) "row" = some none)
    (na_deeds : PySem.W.findIn K (.ref C_own) "deeds" = some none)
    (a_is_whole : PySem.W.nsIn K mainGlobals "is_whole" = some (some (.ref f_is_whole))) (l_is_whole : K.lookup f_is_whole = some ⟨oc_is_whole, od_is_whole, .func (PySem.W.fnOf "is_whole" "is_whole" (defArgs s_is_whole) (defBody s_is_whole) (defScope s_is_whole) .none kV_is_whole dc_is_whole pm_is_whole an_is_whole cd_is_whole ct_is_whole), sl_is_whole⟩) (c_is_whole : PySem.W.codeIn K cd_is_whole "is_whole" = true) (k_is_whole : PySem.W.keepIn K (.ref f_is_whole) = true)
    (a_is_figure : PySem.W.nsIn K mainGlobals "is_figure" = some (some (.ref f_is_figure))) (l_is_figure : K.lookup f_is_figure = some ⟨oc_is_figure, od_is_figure, .func (PySem.W.fnOf "is_figure" "is_figure" (defArgs s_is_figure) (defBody s_is_figure) (defScope s_is_figure) .none kV_is_figure dc_is_figure pm_is_figure an_is_figure cd_is_figure ct_is_figure), sl_is_figure⟩) (c_is_figure : PySem.W.codeIn K cd_is_figure "is_figure" = true) (k_is_figure : PySem.W.keepIn K (.ref f_is_figure) = true)
    (a_worth : PySem.W.nsIn K mainGlobals "worth" = some (some (.ref f_worth))) (l_worth : K.lookup f_worth = some ⟨oc_worth, od_worth, .func (PySem.W.fnOf "worth" "worth" (defArgs s_worth) (defBody s_worth) (defScope s_worth) .none kV_worth dc_worth pm_worth an_worth cd_worth ct_worth), sl_worth⟩) (c_worth : PySem.W.codeIn K cd_worth "worth" = true) (k_worth : PySem.W.keepIn K (.ref f_worth) = true)
    (a_twos_are_apart : PySem.W.nsIn K mainGlobals "twos_are_apart" = some (some (.ref f_twos_are_apart))) (l_twos_are_apart : K.lookup f_twos_are_apart = some ⟨oc_twos_are_apart, od_twos_are_apart, .func (PySem.W.fnOf "twos_are_apart" "twos_are_apart" (defArgs s_twos_are_apart) (defBody s_twos_are_apart) (defScope s_twos_are_apart) .none kV_twos_are_apart dc_twos_are_apart pm_twos_are_apart an_twos_are_apart cd_twos_are_apart ct_twos_are_apart), sl_twos_are_apart⟩) (c_twos_are_apart : PySem.W.codeIn K cd_twos_are_apart "twos_are_apart" = true) (k_twos_are_apart : PySem.W.keepIn K (.ref f_twos_are_apart) = true)
    (a_mirrored : PySem.W.nsIn K mainGlobals "mirrored" = some (some (.ref f_mirrored))) (l_mirrored : K.lookup f_mirrored = some ⟨oc_mirrored, od_mirrored, .func (PySem.W.fnOf "mirrored" "mirrored" (defArgs s_mirrored) (defBody s_mirrored) (defScope s_mirrored) .none kV_mirrored dc_mirrored pm_mirrored an_mirrored cd_mirrored ct_mirrored), sl_mirrored⟩) (c_mirrored : PySem.W.codeIn K cd_mirrored "mirrored" = true) (k_mirrored : PySem.W.keepIn K (.ref f_mirrored) = true)
    (a_is_calm : PySem.W.nsIn K mainGlobals "is_calm" = some (some (.ref f_is_calm))) (l_is_calm : K.lookup f_is_calm = some ⟨oc_is_calm, od_is_calm, .func (PySem.W.fnOf "is_calm" "is_calm" (defArgs s_is_calm) (defBody s_is_calm) (defScope s_is_calm) .none kV_is_calm dc_is_calm pm_is_calm an_is_calm cd_is_calm ct_is_calm), sl_is_calm⟩) (c_is_calm : PySem.W.codeIn K cd_is_calm "is_calm" = true) (k_is_calm : PySem.W.keepIn K (.ref f_is_calm) = true)
    (a_refuse_if_not_calm : PySem.W.nsIn K mainGlobals "refuse_if_not_calm" = some (some (.ref f_refuse_if_not_calm))) (l_refuse_if_not_calm : K.lookup f_refuse_if_not_calm = some ⟨oc_refuse_if_not_calm, od_refuse_if_not_calm, .func (PySem.W.fnOf "refuse_if_not_calm" "refuse_if_not_calm" (defArgs s_refuse_if_not_calm) (defBody s_refuse_if_not_calm) (defScope s_refuse_if_not_calm) .none kV_refuse_if_not_calm dc_refuse_if_not_calm pm_refuse_if_not_calm an_refuse_if_not_calm cd_refuse_if_not_calm ct_refuse_if_not_calm), sl_refuse_if_not_calm⟩) (c_refuse_if_not_calm : PySem.W.codeIn K cd_refuse_if_not_calm "refuse_if_not_calm" = true) (k_refuse_if_not_calm : PySem.W.keepIn K (.ref f_refuse_if_not_calm) = true)
    (a_settled : PySem.W.nsIn K mainGlobals "settled" = some (some (.ref f_settled))) (l_settled : K.lookup f_settled = some ⟨oc_settled, od_settled, .func (PySem.W.fnOf "settled" "settled" (defArgs s_settled) (defBody s_settled) (defScope s_settled) .none kV_settled dc_settled pm_settled an_settled cd_settled ct_settled), sl_settled⟩) (c_settled : PySem.W.codeIn K cd_settled "settled" = true) (k_settled : PySem.W.keepIn K (.ref f_settled) = true)
    (a_refuse_if_no_place : PySem.W.nsIn K mainGlobals "refuse_if_no_place" = some (some (.ref f_refuse_if_no_place))) (l_refuse_if_no_place : K.lookup f_refuse_if_no_place = some ⟨oc_refuse_if_no_place, od_refuse_if_no_place, .func (PySem.W.fnOf "refuse_if_no_place" "refuse_if_no_place" (defArgs s_refuse_if_no_place) (defBody s_refuse_if_no_place) (defScope s_refuse_if_no_place) .none kV_refuse_if_no_place dc_refuse_if_no_place pm_refuse_if_no_place an_refuse_if_no_place cd_refuse_if_no_place ct_refuse_if_no_place), sl_refuse_if_no_place⟩) (c_refuse_if_no_place : PySem.W.codeIn K cd_refuse_if_no_place "refuse_if_no_place" = true) (k_refuse_if_no_place : PySem.W.keepIn K (.ref f_refuse_if_no_place) = true)
    (a_mirror : PySem.W.nsIn K mainGlobals "mirror" = some (some (.ref f_mirror))) (l_mirror : K.lookup f_mirror = some ⟨oc_mirror, od_mirror, .func (PySem.W.fnOf "mirror" "mirror" (defArgs s_mirror) (defBody s_mirror) (defScope s_mirror) .none kV_mirror dc_mirror pm_mirror an_mirror cd_mirror ct_mirror), sl_mirror⟩) (c_mirror : PySem.W.codeIn K cd_mirror "mirror" = true) (k_mirror : PySem.W.keepIn K (.ref f_mirror) = true)
    (a_figure_at : PySem.W.nsIn K mainGlobals "figure_at" = some (some (.ref f_figure_at))) (l_figure_at : K.lookup f_figure_at = some ⟨oc_figure_at, od_figure_at, .func (PySem.W.fnOf "figure_at" "figure_at" (defArgs s_figure_at) (defBody s_figure_at) (defScope s_figure_at) .none kV_figure_at dc_figure_at pm_figure_at an_figure_at cd_figure_at ct_figure_at), sl_figure_at⟩) (c_figure_at : PySem.W.codeIn K cd_figure_at "figure_at" = true) (k_figure_at : PySem.W.keepIn K (.ref f_figure_at) = true)
    (a_seen : PySem.W.nsIn K mainGlobals "seen" = some (some (.ref f_seen))) (l_seen : K.lookup f_seen = some ⟨oc_seen, od_seen, .func (PySem.W.fnOf "seen" "seen" (defArgs s_seen) (defBody s_seen) (defScope s_seen) .none kV_seen dc_seen pm_seen an_seen cd_seen ct_seen), sl_seen⟩) (c_seen : PySem.W.codeIn K cd_seen "seen" = true) (k_seen : PySem.W.keepIn K (.ref f_seen) = true)
    (a_first_above : PySem.W.nsIn K mainGlobals "first_above" = some (some (.ref f_first_above))) (l_first_above : K.lookup f_first_above = some ⟨oc_first_above, od_first_above, .func (PySem.W.fnOf "first_above" "first_above" (defArgs s_first_above) (defBody s_first_above) (defScope s_first_above) .none kV_first_above dc_first_above pm_first_above an_first_above cd_first_above ct_first_above), sl_first_above⟩) (c_first_above : PySem.W.codeIn K cd_first_above "first_above" = true) (k_first_above : PySem.W.keepIn K (.ref f_first_above) = true)
    (a_finds_two_below : PySem.W.nsIn K mainGlobals "finds_two_below" = some (some (.ref f_finds_two_below))) (l_finds_two_below : K.lookup f_finds_two_below = some ⟨oc_finds_two_below, od_finds_two_below, .func (PySem.W.fnOf "finds_two_below" "finds_two_below" (defArgs s_finds_two_below) (defBody s_finds_two_below) (defScope s_finds_two_below) .none kV_finds_two_below dc_finds_two_below pm_finds_two_below an_finds_two_below cd_finds_two_below ct_finds_two_below), sl_finds_two_below⟩) (c_finds_two_below : PySem.W.codeIn K cd_finds_two_below "finds_two_below" = true) (k_finds_two_below : PySem.W.keepIn K (.ref f_finds_two_below) = true)
    (a_grown : PySem.W.nsIn K mainGlobals "grown" = some (some (.ref f_grown))) (l_grown : K.lookup f_grown = some ⟨oc_grown, od_grown, .func (PySem.W.fnOf "grown" "grown" (defArgs s_grown) (defBody s_grown) (defScope s_grown) .none kV_grown dc_grown pm_grown an_grown cd_grown ct_grown), sl_grown⟩) (c_grown : PySem.W.codeIn K cd_grown "grown" = true) (k_grown : PySem.W.keepIn K (.ref f_grown) = true)
    (a_figures_behind : PySem.W.nsIn K mainGlobals "figures_behind" = some (some (.ref f_figures_behind))) (l_figures_behind : K.lookup f_figures_behind = some ⟨oc_figures_behind, od_figures_behind, .func (PySem.W.fnOf "figures_behind" "figures_behind" (defArgs s_figures_behind) (defBody s_figures_behind) (defScope s_figures_behind) .none kV_figures_behind dc_figures_behind pm_figures_behind an_figures_behind cd_figures_behind ct_figures_behind), sl_figures_behind⟩) (c_figures_behind : PySem.W.codeIn K cd_figures_behind "figures_behind" = true) (k_figures_behind : PySem.W.keepIn K (.ref f_figures_behind) = true)
    (a_step : PySem.W.nsIn K mainGlobals "step" = some (some (.ref f_step))) (l_step : K.lookup f_step = some ⟨oc_step, od_step, .func (PySem.W.fnOf "step" "step" (defArgs s_step) (defBody s_step) (defScope s_step) .none kV_step dc_step pm_step an_step cd_step ct_step), sl_step⟩) (c_step : PySem.W.codeIn K cd_step "step" = true) (k_step : PySem.W.keepIn K (.ref f_step) = true)
    (a_changes : PySem.W.nsIn K mainGlobals "changes" = some (some (.ref f_changes))) (l_changes : K.lookup f_changes = some ⟨oc_changes, od_changes, .func (PySem.W.fnOf "changes" "changes" (defArgs s_changes) (defBody s_changes) (defScope s_changes) (.ref T_changes) kV_changes dc_changes pm_changes an_changes cd_changes ct_changes), sl_changes⟩) (c_changes : PySem.W.codeIn K cd_changes "changes" = true) (k_changes : PySem.W.keepIn K (.ref f_changes) = true)
    (t_changes : K.lookup T_changes = some ⟨tc_changes, td_changes, .seq #[.bool true] tn_changes, ts_changes⟩)
    (a_put : PySem.W.nsIn K mainGlobals "put" = some (some (.ref f_put))) (l_put : K.lookup f_put = some ⟨oc_put, od_put, .func (PySem.W.fnOf "put" "put" (defArgs s_put) (defBody s_put) (defScope s_put) .none kV_put dc_put pm_put an_put cd_put ct_put), sl_put⟩) (c_put : PySem.W.codeIn K cd_put "put" = true) (k_put : PySem.W.keepIn K (.ref f_put) = true)
    (a_turned_back : PySem.W.nsIn K mainGlobals "turned_back" = some (some (.ref f_turned_back))) (l_turned_back : K.lookup f_turned_back = some ⟨oc_turned_back, od_turned_back, .func (PySem.W.fnOf "turned_back" "turned_back" (defArgs s_turned_back) (defBody s_turned_back) (defScope s_turned_back) .none kV_turned_back dc_turned_back pm_turned_back an_turned_back cd_turned_back ct_turned_back), sl_turned_back⟩) (c_turned_back : PySem.W.codeIn K cd_turned_back "turned_back" = true) (k_turned_back : PySem.W.keepIn K (.ref f_turned_back) = true)
    (a_added : PySem.W.nsIn K mainGlobals "added" = some (some (.ref f_added))) (l_added : K.lookup f_added = some ⟨oc_added, od_added, .func (PySem.W.fnOf "added" "added" (defArgs s_added) (defBody s_added) (defScope s_added) .none kV_added dc_added pm_added an_added cd_added ct_added), sl_added⟩) (c_added : PySem.W.codeIn K cd_added "added" = true) (k_added : PySem.W.keepIn K (.ref f_added) = true)
    (a_taken : PySem.W.nsIn K mainGlobals "taken" = some (some (.ref f_taken))) (l_taken : K.lookup f_taken = some ⟨oc_taken, od_taken, .func (PySem.W.fnOf "taken" "taken" (defArgs s_taken) (defBody s_taken) (defScope s_taken) .none kV_taken dc_taken pm_taken an_taken cd_taken ct_taken), sl_taken⟩) (c_taken : PySem.W.codeIn K cd_taken "taken" = true) (k_taken : PySem.W.keepIn K (.ref f_taken) = true)
    (a_joined : PySem.W.nsIn K mainGlobals "joined" = some (some (.ref f_joined))) (l_joined : K.lookup f_joined = some ⟨oc_joined, od_joined, .func (PySem.W.fnOf "joined" "joined" (defArgs s_joined) (defBody s_joined) (defScope s_joined) .none kV_joined dc_joined pm_joined an_joined cd_joined ct_joined), sl_joined⟩) (c_joined : PySem.W.codeIn K cd_joined "joined" = true) (k_joined : PySem.W.keepIn K (.ref f_joined) = true)
    (a_Counter___init__ : PySem.W.findIn K (.ref C_own) "__init__" = some (some (.ref f_Counter___init__))) (i_Counter___init__ : PySem.W.isFn K (.ref f_Counter___init__) = true) (l_Counter___init__ : K.lookup f_Counter___init__ = some ⟨oc_Counter___init__, od_Counter___init__, .func (PySem.W.fnOf "__init__" "Counter.__init__" (defArgs s_Counter___init__) (defBody s_Counter___init__) (defScope s_Counter___init__) .none kV_Counter___init__ dc_Counter___init__ pm_Counter___init__ an_Counter___init__ cd_Counter___init__ ct_Counter___init__), sl_Counter___init__⟩) (c_Counter___init__ : PySem.W.codeIn K cd_Counter___init__ "Counter.__init__" = true) (k_Counter___init__ : PySem.W.keepIn K (.ref f_Counter___init__) = true)
    (a_Counter_add : PySem.W.findIn K (.ref C_own) "add" = some (some (.ref f_Counter_add))) (i_Counter_add : PySem.W.isFn K (.ref f_Counter_add) = true) (l_Counter_add : K.lookup f_Counter_add = some ⟨oc_Counter_add, od_Counter_add, .func (PySem.W.fnOf "add" "Counter.add" (defArgs s_Counter_add) (defBody s_Counter_add) (defScope s_Counter_add) .none kV_Counter_add dc_Counter_add pm_Counter_add an_Counter_add cd_Counter_add ct_Counter_add), sl_Counter_add⟩) (c_Counter_add : PySem.W.codeIn K cd_Counter_add "Counter.add" = true) (k_Counter_add : PySem.W.keepIn K (.ref f_Counter_add) = true)
    (a_Counter_take : PySem.W.findIn K (.ref C_own) "take" = some (some (.ref f_Counter_take))) (i_Counter_take : PySem.W.isFn K (.ref f_Counter_take) = true) (l_Counter_take : K.lookup f_Counter_take = some ⟨oc_Counter_take, od_Counter_take, .func (PySem.W.fnOf "take" "Counter.take" (defArgs s_Counter_take) (defBody s_Counter_take) (defScope s_Counter_take) .none kV_Counter_take dc_Counter_take pm_Counter_take an_Counter_take cd_Counter_take ct_Counter_take), sl_Counter_take⟩) (c_Counter_take : PySem.W.codeIn K cd_Counter_take "Counter.take" = true) (k_Counter_take : PySem.W.keepIn K (.ref f_Counter_take) = true)
    (a_Counter_carry_out : PySem.W.findIn K (.ref C_own) "carry_out" = some (some (.ref f_Counter_carry_out))) (i_Counter_carry_out : PySem.W.isFn K (.ref f_Counter_carry_out) = true) (l_Counter_carry_out : K.lookup f_Counter_carry_out = some ⟨oc_Counter_carry_out, od_Counter_carry_out, .func (PySem.W.fnOf "carry_out" "Counter.carry_out" (defArgs s_Counter_carry_out) (defBody s_Counter_carry_out) (defScope s_Counter_carry_out) .none kV_Counter_carry_out dc_Counter_carry_out pm_Counter_carry_out an_Counter_carry_out cd_Counter_carry_out ct_Counter_carry_out), sl_Counter_carry_out⟩) (c_Counter_carry_out : PySem.W.codeIn K cd_Counter_carry_out "Counter.carry_out" = true) (k_Counter_carry_out : PySem.W.keepIn K (.ref f_Counter_carry_out) = true)
    (a_Counter_undo : PySem.W.findIn K (.ref C_own) "undo" = some (some (.ref f_Counter_undo))) (i_Counter_undo : PySem.W.isFn K (.ref f_Counter_undo) = true) (l_Counter_undo : K.lookup f_Counter_undo = some ⟨oc_Counter_undo, od_Counter_undo, .func (PySem.W.fnOf "undo" "Counter.undo" (defArgs s_Counter_undo) (defBody s_Counter_undo) (defScope s_Counter_undo) .none kV_Counter_undo dc_Counter_undo pm_Counter_undo an_Counter_undo cd_Counter_undo ct_Counter_undo), sl_Counter_undo⟩) (c_Counter_undo : PySem.W.codeIn K cd_Counter_undo "Counter.undo" = true) (k_Counter_undo : PySem.W.keepIn K (.ref f_Counter_undo) = true)
    (a_Counter_figures : PySem.W.findIn K (.ref C_own) "figures" = some (some (.ref f_Counter_figures))) (i_Counter_figures : PySem.W.isFn K (.ref f_Counter_figures) = true) (l_Counter_figures : K.lookup f_Counter_figures = some ⟨oc_Counter_figures, od_Counter_figures, .func (PySem.W.fnOf "figures" "Counter.figures" (defArgs s_Counter_figures) (defBody s_Counter_figures) (defScope s_Counter_figures) .none kV_Counter_figures dc_Counter_figures pm_Counter_figures an_Counter_figures cd_Counter_figures ct_Counter_figures), sl_Counter_figures⟩) (c_Counter_figures : PySem.W.codeIn K cd_Counter_figures "Counter.figures" = true) (k_Counter_figures : PySem.W.keepIn K (.ref f_Counter_figures) = true)
    (a_Counter_amount : PySem.W.findIn K (.ref C_own) "amount" = some (some (.ref f_Counter_amount))) (i_Counter_amount : PySem.W.isFn K (.ref f_Counter_amount) = true) (l_Counter_amount : K.lookup f_Counter_amount = some ⟨oc_Counter_amount, od_Counter_amount, .func (PySem.W.fnOf "amount" "Counter.amount" (defArgs s_Counter_amount) (defBody s_Counter_amount) (defScope s_Counter_amount) .none kV_Counter_amount dc_Counter_amount pm_Counter_amount an_Counter_amount cd_Counter_amount ct_Counter_amount), sl_Counter_amount⟩) (c_Counter_amount : PySem.W.codeIn K cd_Counter_amount "Counter.amount" = true) (k_Counter_amount : PySem.W.keepIn K (.ref f_Counter_amount) = true)
    (a_Counter_many : PySem.W.findIn K (.ref C_own) "many" = some (some (.ref f_Counter_many))) (i_Counter_many : PySem.W.isFn K (.ref f_Counter_many) = true) (l_Counter_many : K.lookup f_Counter_many = some ⟨oc_Counter_many, od_Counter_many, .func (PySem.W.fnOf "many" "Counter.many" (defArgs s_Counter_many) (defBody s_Counter_many) (defScope s_Counter_many) .none kV_Counter_many dc_Counter_many pm_Counter_many an_Counter_many cd_Counter_many ct_Counter_many), sl_Counter_many⟩) (c_Counter_many : PySem.W.codeIn K cd_Counter_many "Counter.many" = true) (k_Counter_many : PySem.W.keepIn K (.ref f_Counter_many) = true)
    (a_shown : PySem.W.nsIn K mainGlobals "shown" = some (some (.ref f_shown))) (l_shown : K.lookup f_shown = some ⟨oc_shown, od_shown, .func (PySem.W.fnOf "shown" "shown" (defArgs s_shown) (defBody s_shown) (defScope s_shown) .none kV_shown dc_shown pm_shown an_shown cd_shown ct_shown), sl_shown⟩) (c_shown : PySem.W.codeIn K cd_shown "shown" = true) (k_shown : PySem.W.keepIn K (.ref f_shown) = true)
    (a_law_cell_at : PySem.W.nsIn K mainGlobals "_law_cell_at" = some (some (.ref f_law_cell_at))) (l_law_cell_at : K.lookup f_law_cell_at = some ⟨oc_law_cell_at, od_law_cell_at, .func (PySem.W.fnOf "_law_cell_at" "_law_cell_at" (defArgs s_law_cell_at) (defBody s_law_cell_at) (defScope s_law_cell_at) .none kV_law_cell_at dc_law_cell_at pm_law_cell_at an_law_cell_at cd_law_cell_at ct_law_cell_at), sl_law_cell_at⟩) (c_law_cell_at : PySem.W.codeIn K cd_law_cell_at "_law_cell_at" = true) (k_law_cell_at : PySem.W.keepIn K (.ref f_law_cell_at) = true)
    (a_law_calm : PySem.W.nsIn K mainGlobals "_law_calm" = some (some (.ref f_law_calm))) (l_law_calm : K.lookup f_law_calm = some ⟨oc_law_calm, od_law_calm, .func (PySem.W.fnOf "_law_calm" "_law_calm" (defArgs s_law_calm) (defBody s_law_calm) (defScope s_law_calm) .none kV_law_calm dc_law_calm pm_law_calm an_law_calm cd_law_calm ct_law_calm), sl_law_calm⟩) (c_law_calm : PySem.W.codeIn K cd_law_calm "_law_calm" = true) (k_law_calm : PySem.W.keepIn K (.ref f_law_calm) = true)
    (a_law_made_calm : PySem.W.nsIn K mainGlobals "_law_made_calm" = some (some (.ref f_law_made_calm))) (l_law_made_calm : K.lookup f_law_made_calm = some ⟨oc_law_made_calm, od_law_made_calm, .func (PySem.W.fnOf "_law_made_calm" "_law_made_calm" (defArgs s_law_made_calm) (defBody s_law_made_calm) (defScope s_law_made_calm) .none kV_law_made_calm dc_law_made_calm pm_law_made_calm an_law_made_calm cd_law_made_calm ct_law_made_calm), sl_law_made_calm⟩) (c_law_made_calm : PySem.W.codeIn K cd_law_made_calm "_law_made_calm" = true) (k_law_made_calm : PySem.W.keepIn K (.ref f_law_made_calm) = true)
    (a_law_spoiled : PySem.W.nsIn K mainGlobals "_law_spoiled" = some (some (.ref f_law_spoiled))) (l_law_spoiled : K.lookup f_law_spoiled = some ⟨oc_law_spoiled, od_law_spoiled, .func (PySem.W.fnOf "_law_spoiled" "_law_spoiled" (defArgs s_law_spoiled) (defBody s_law_spoiled) (defScope s_law_spoiled) .none kV_law_spoiled dc_law_spoiled pm_law_spoiled an_law_spoiled cd_law_spoiled ct_law_spoiled), sl_law_spoiled⟩) (c_law_spoiled : PySem.W.codeIn K cd_law_spoiled "_law_spoiled" = true) (k_law_spoiled : PySem.W.keepIn K (.ref f_law_spoiled) = true)
    (a_law_place : PySem.W.nsIn K mainGlobals "_law_place" = some (some (.ref f_law_place))) (l_law_place : K.lookup f_law_place = some ⟨oc_law_place, od_law_place, .func (PySem.W.fnOf "_law_place" "_law_place" (defArgs s_law_place) (defBody s_law_place) (defScope s_law_place) .none kV_law_place dc_law_place pm_law_place an_law_place cd_law_place ct_law_place), sl_law_place⟩) (c_law_place : PySem.W.codeIn K cd_law_place "_law_place" = true) (k_law_place : PySem.W.keepIn K (.ref f_law_place) = true)
    (a_law_asked : PySem.W.nsIn K mainGlobals "_law_asked" = some (some (.ref f_law_asked))) (l_law_asked : K.lookup f_law_asked = some ⟨oc_law_asked, od_law_asked, .func (PySem.W.fnOf "_law_asked" "_law_asked" (defArgs s_law_asked) (defBody s_law_asked) (defScope s_law_asked) .none kV_law_asked dc_law_asked pm_law_asked an_law_asked cd_law_asked ct_law_asked), sl_law_asked⟩) (c_law_asked : PySem.W.codeIn K cd_law_asked "_law_asked" = true) (k_law_asked : PySem.W.keepIn K (.ref f_law_asked) = true)
    (a_law_kinds : PySem.W.nsIn K mainGlobals "_law_kinds" = some (some (.ref f_law_kinds))) (l_law_kinds : K.lookup f_law_kinds = some ⟨oc_law_kinds, od_law_kinds, .func (PySem.W.fnOf "_law_kinds" "_law_kinds" (defArgs s_law_kinds) (defBody s_law_kinds) (defScope s_law_kinds) .none kV_law_kinds dc_law_kinds pm_law_kinds an_law_kinds cd_law_kinds ct_law_kinds), sl_law_kinds⟩) (c_law_kinds : PySem.W.codeIn K cd_law_kinds "_law_kinds" = true) (k_law_kinds : PySem.W.keepIn K (.ref f_law_kinds) = true)
    (a_law_told : PySem.W.nsIn K mainGlobals "_law_told" = some (some (.ref f_law_told))) (l_law_told : K.lookup f_law_told = some ⟨oc_law_told, od_law_told, .func (PySem.W.fnOf "_law_told" "_law_told" (defArgs s_law_told) (defBody s_law_told) (defScope s_law_told) .none kV_law_told dc_law_told pm_law_told an_law_told cd_law_told ct_law_told), sl_law_told⟩) (c_law_told : PySem.W.codeIn K cd_law_told "_law_told" = true) (k_law_told : PySem.W.keepIn K (.ref f_law_told) = true)
    (a_law_all_told : PySem.W.nsIn K mainGlobals "_law_all_told" = some (some (.ref f_law_all_told))) (l_law_all_told : K.lookup f_law_all_told = some ⟨oc_law_all_told, od_law_all_told, .func (PySem.W.fnOf "_law_all_told" "_law_all_told" (defArgs s_law_all_told) (defBody s_law_all_told) (defScope s_law_all_told) .none kV_law_all_told dc_law_all_told pm_law_all_told an_law_all_told cd_law_all_told ct_law_all_told), sl_law_all_told⟩) (c_law_all_told : PySem.W.codeIn K cd_law_all_told "_law_all_told" = true) (k_law_all_told : PySem.W.keepIn K (.ref f_law_all_told) = true)
    (a_law_deed_told : PySem.W.nsIn K mainGlobals "_law_deed_told" = some (some (.ref f_law_deed_told))) (l_law_deed_told : K.lookup f_law_deed_told = some ⟨oc_law_deed_told, od_law_deed_told, .func (PySem.W.fnOf "_law_deed_told" "_law_deed_told" (defArgs s_law_deed_told) (defBody s_law_deed_told) (defScope s_law_deed_told) .none kV_law_deed_told dc_law_deed_told pm_law_deed_told an_law_deed_told cd_law_deed_told ct_law_deed_told), sl_law_deed_told⟩) (c_law_deed_told : PySem.W.codeIn K cd_law_deed_told "_law_deed_told" = true) (k_law_deed_told : PySem.W.keepIn K (.ref f_law_deed_told) = true)
    (a_law_undo_told : PySem.W.nsIn K mainGlobals "_law_undo_told" = some (some (.ref f_law_undo_told))) (l_law_undo_told : K.lookup f_law_undo_told = some ⟨oc_law_undo_told, od_law_undo_told, .func (PySem.W.fnOf "_law_undo_told" "_law_undo_told" (defArgs s_law_undo_told) (defBody s_law_undo_told) (defScope s_law_undo_told) .none kV_law_undo_told dc_law_undo_told pm_law_undo_told an_law_undo_told cd_law_undo_told ct_law_undo_told), sl_law_undo_told⟩) (c_law_undo_told : PySem.W.codeIn K cd_law_undo_told "_law_undo_told" = true) (k_law_undo_told : PySem.W.keepIn K (.ref f_law_undo_told) = true)
    (a_law_counter : PySem.W.nsIn K mainGlobals "_law_counter" = some (some (.ref f_law_counter))) (l_law_counter : K.lookup f_law_counter = some ⟨oc_law_counter, od_law_counter, .func (PySem.W.fnOf "_law_counter" "_law_counter" (defArgs s_law_counter) (defBody s_law_counter) (defScope s_law_counter) .none kV_law_counter dc_law_counter pm_law_counter an_law_counter cd_law_counter ct_law_counter), sl_law_counter⟩) (c_law_counter : PySem.W.codeIn K cd_law_counter "_law_counter" = true) (k_law_counter : PySem.W.keepIn K (.ref f_law_counter) = true)
    (a_law : PySem.W.nsIn K mainGlobals "law" = some (some (.ref f_law))) (l_law : K.lookup f_law = some ⟨oc_law, od_law, .func (PySem.W.fnOf "law" "law" (defArgs s_law) (defBody s_law) (defScope s_law) .none kV_law dc_law pm_law an_law cd_law ct_law), sl_law⟩) (c_law : PySem.W.codeIn K cd_law "law" = true) (k_law : PySem.W.keepIn K (.ref f_law) = true)
    (n_CountError : PySem.W.nsIn K mainGlobals "CountError" = some (some (.ref C_CountError))) (q_CountError : PySem.W.excIn K C_CountError valueErr "ValueError.__new__" = true)
    (n_NotCalm : PySem.W.nsIn K mainGlobals "NotCalm" = some (some (.ref C_NotCalm))) (q_NotCalm : PySem.W.excIn K C_NotCalm valueErr "ValueError.__new__" = true)
    (n_NoPlace : PySem.W.nsIn K mainGlobals "NoPlace" = some (some (.ref C_NoPlace))) (q_NoPlace : PySem.W.excIn K C_NoPlace valueErr "ValueError.__new__" = true)
    (n_NothingDone : PySem.W.nsIn K mainGlobals "NothingDone" = some (some (.ref C_NothingDone))) (q_NothingDone : PySem.W.excIn K C_NothingDone valueErr "ValueError.__new__" = true)
    (n_NoText : PySem.W.nsIn K mainGlobals "NoText" = some (some (.ref C_NoText))) (q_NoText : PySem.W.excIn K C_NoText valueErr "ValueError.__new__" = true)
    (x1_NotCalm : (PySem.W.clsIn K C_NotCalm).isSome = true) (x2_NotCalm : PySem.W.findIn K (.ref C_NotCalm) "__getattribute__" = some (some (.builtin "BaseException.__getattribute__"))) (x3_NotCalm : PySem.W.findIn K (.ref C_NotCalm) "__getattr__" = some none) (x4_NotCalm : PySem.W.findIn K (.ref C_NotCalm) "__class__" = some (some (.builtin "object.__class__")))
    (x1_NoPlace : (PySem.W.clsIn K C_NoPlace).isSome = true) (x2_NoPlace : PySem.W.findIn K (.ref C_NoPlace) "__getattribute__" = some (some (.builtin "BaseException.__getattribute__"))) (x3_NoPlace : PySem.W.findIn K (.ref C_NoPlace) "__getattr__" = some none) (x4_NoPlace : PySem.W.findIn K (.ref C_NoPlace) "__class__" = some (some (.builtin "object.__class__")))
    (x1_NothingDone : (PySem.W.clsIn K C_NothingDone).isSome = true) (x2_NothingDone : PySem.W.findIn K (.ref C_NothingDone) "__getattribute__" = some (some (.builtin "BaseException.__getattribute__"))) (x3_NothingDone : PySem.W.findIn K (.ref C_NothingDone) "__getattr__" = some none) (x4_NothingDone : PySem.W.findIn K (.ref C_NothingDone) "__class__" = some (some (.builtin "object.__class__")))
    (kt_NotCalm_CountError : PySem.W.kitOne K (.ref C_NotCalm) (.ref C_CountError) = some true)
    (es_NotCalm_CountError : errSub K C_NotCalm C_CountError = true)
    (kt_NotCalm_NotCalm : PySem.W.kitOne K (.ref C_NotCalm) (.ref C_NotCalm) = some true)
    (es_NotCalm_NotCalm : errSub K C_NotCalm C_NotCalm = true)
    (kt_NotCalm_NoPlace : PySem.W.kitOne K (.ref C_NotCalm) (.ref C_NoPlace) = some false)
    (kt_NotCalm_NothingDone : PySem.W.kitOne K (.ref C_NotCalm) (.ref C_NothingDone) = some false)
    (kt_NotCalm_NoText : PySem.W.kitOne K (.ref C_NotCalm) (.ref C_NoText) = some false)
    (kt_NotCalm_ValueError : PySem.W.kitOne K (.ref C_NotCalm) (.type "ValueError") = some true)
    (kt_NoPlace_CountError : PySem.W.kitOne K (.ref C_NoPlace) (.ref C_CountError) = some true)
    (es_NoPlace_CountError : errSub K C_NoPlace C_CountError = true)
    (kt_NoPlace_NotCalm : PySem.W.kitOne K (.ref C_NoPlace) (.ref C_NotCalm) = some false)
    (kt_NoPlace_NoPlace : PySem.W.kitOne K (.ref C_NoPlace) (.ref C_NoPlace) = some true)
    (es_NoPlace_NoPlace : errSub K C_NoPlace C_NoPlace = true)
    (kt_NoPlace_NothingDone : PySem.W.kitOne K (.ref C_NoPlace) (.ref C_NothingDone) = some false)
    (kt_NoPlace_NoText : PySem.W.kitOne K (.ref C_NoPlace) (.ref C_NoText) = some false)
    (kt_NoPlace_ValueError : PySem.W.kitOne K (.ref C_NoPlace) (.type "ValueError") = some true)
    (kt_NothingDone_CountError : PySem.W.kitOne K (.ref C_NothingDone) (.ref C_CountError) = some true)
    (es_NothingDone_CountError : errSub K C_NothingDone C_CountError = true)
    (kt_NothingDone_NotCalm : PySem.W.kitOne K (.ref C_NothingDone) (.ref C_NotCalm) = some false)
    (kt_NothingDone_NoPlace : PySem.W.kitOne K (.ref C_NothingDone) (.ref C_NoPlace) = some false)
    (kt_NothingDone_NothingDone : PySem.W.kitOne K (.ref C_NothingDone) (.ref C_NothingDone) = some true)
    (es_NothingDone_NothingDone : errSub K C_NothingDone C_NothingDone = true)
    (kt_NothingDone_NoText : PySem.W.kitOne K (.ref C_NothingDone) (.ref C_NoText) = some false)
    (kt_NothingDone_ValueError : PySem.W.kitOne K (.ref C_NothingDone) (.type "ValueError") = some true)
    (z_isinstance : PySem.W.nsIn K mainGlobals "isinstance" = some none)
    (z_int : PySem.W.nsIn K mainGlobals "int" = some none)
    (z_bool : PySem.W.nsIn K mainGlobals "bool" = some none)
    (z_reversed : PySem.W.nsIn K mainGlobals "reversed" = some none)
    (z_len : PySem.W.nsIn K mainGlobals "len" = some none)
    (z_list : PySem.W.nsIn K mainGlobals "list" = some none)
    (z_enumerate : PySem.W.nsIn K mainGlobals "enumerate" = some none)
    (z_range : PySem.W.nsIn K mainGlobals "range" = some none)
    (z_abs : PySem.W.nsIn K mainGlobals "abs" = some none)
    (z_ValueError : PySem.W.nsIn K mainGlobals "ValueError" = some none)
    (g_LAST_PLACE : PySem.W.nsIn K mainGlobals "LAST_PLACE" = some (some (.int 399 gt_LAST_PLACE)))
    (g_SIGNS : PySem.W.nsIn K mainGlobals "SIGNS" = some (some (.str "-012" gt_SIGNS)))
    : Txt K mg ⟨C_own, C_CountError, C_NotCalm, C_NoPlace, C_NothingDone, C_NoText, f_is_whole, PySem.W.fnOf "is_whole" "is_whole" (defArgs s_is_whole) (defBody s_is_whole) (defScope s_is_whole) .none kV_is_whole dc_is_whole pm_is_whole an_is_whole cd_is_whole ct_is_whole, f_is_figure, PySem.W.fnOf "is_figure" "is_figure" (defArgs s_is_figure) (defBody s_is_figure) (defScope s_is_figure) .none kV_is_figure dc_is_figure pm_is_figure an_is_figure cd_is_figure ct_is_figure, f_worth, PySem.W.fnOf "worth" "worth" (defArgs s_worth) (defBody s_worth) (defScope s_worth) .none kV_worth dc_worth pm_worth an_worth cd_worth ct_worth, f_twos_are_apart, PySem.W.fnOf "twos_are_apart" "twos_are_apart" (defArgs s_twos_are_apart) (defBody s_twos_are_apart) (defScope s_twos_are_apart) .none kV_twos_are_apart dc_twos_are_apart pm_twos_are_apart an_twos_are_apart cd_twos_are_apart ct_twos_are_apart, f_mirrored, PySem.W.fnOf "mirrored" "mirrored" (defArgs s_mirrored) (defBody s_mirrored) (defScope s_mirrored) .none kV_mirrored dc_mirrored pm_mirrored an_mirrored cd_mirrored ct_mirrored, f_is_calm, PySem.W.fnOf "is_calm" "is_calm" (defArgs s_is_calm) (defBody s_is_calm) (defScope s_is_calm) .none kV_is_calm dc_is_calm pm_is_calm an_is_calm cd_is_calm ct_is_calm, f_refuse_if_not_calm, PySem.W.fnOf "refuse_if_not_calm" "refuse_if_not_calm" (defArgs s_refuse_if_not_calm) (defBody s_refuse_if_not_calm) (defScope s_refuse_if_not_calm) .none kV_refuse_if_not_calm dc_refuse_if_not_calm pm_refuse_if_not_calm an_refuse_if_not_calm cd_refuse_if_not_calm ct_refuse_if_not_calm, f_settled, PySem.W.fnOf "settled" "settled" (defArgs s_settled) (defBody s_settled) (defScope s_settled) .none kV_settled dc_settled pm_settled an_settled cd_settled ct_settled, f_refuse_if_no_place, PySem.W.fnOf "refuse_if_no_place" "refuse_if_no_place" (defArgs s_refuse_if_no_place) (defBody s_refuse_if_no_place) (defScope s_refuse_if_no_place) .none kV_refuse_if_no_place dc_refuse_if_no_place pm_refuse_if_no_place an_refuse_if_no_place cd_refuse_if_no_place ct_refuse_if_no_place, f_mirror, PySem.W.fnOf "mirror" "mirror" (defArgs s_mirror) (defBody s_mirror) (defScope s_mirror) .none kV_mirror dc_mirror pm_mirror an_mirror cd_mirror ct_mirror, f_figure_at, PySem.W.fnOf "figure_at" "figure_at" (defArgs s_figure_at) (defBody s_figure_at) (defScope s_figure_at) .none kV_figure_at dc_figure_at pm_figure_at an_figure_at cd_figure_at ct_figure_at, f_seen, PySem.W.fnOf "seen" "seen" (defArgs s_seen) (defBody s_seen) (defScope s_seen) .none kV_seen dc_seen pm_seen an_seen cd_seen ct_seen, f_first_above, PySem.W.fnOf "first_above" "first_above" (defArgs s_first_above) (defBody s_first_above) (defScope s_first_above) .none kV_first_above dc_first_above pm_first_above an_first_above cd_first_above ct_first_above, f_finds_two_below, PySem.W.fnOf "finds_two_below" "finds_two_below" (defArgs s_finds_two_below) (defBody s_finds_two_below) (defScope s_finds_two_below) .none kV_finds_two_below dc_finds_two_below pm_finds_two_below an_finds_two_below cd_finds_two_below ct_finds_two_below, f_grown, PySem.W.fnOf "grown" "grown" (defArgs s_grown) (defBody s_grown) (defScope s_grown) .none kV_grown dc_grown pm_grown an_grown cd_grown ct_grown, f_figures_behind, PySem.W.fnOf "figures_behind" "figures_behind" (defArgs s_figures_behind) (defBody s_figures_behind) (defScope s_figures_behind) .none kV_figures_behind dc_figures_behind pm_figures_behind an_figures_behind cd_figures_behind ct_figures_behind, f_step, PySem.W.fnOf "step" "step" (defArgs s_step) (defBody s_step) (defScope s_step) .none kV_step dc_step pm_step an_step cd_step ct_step, f_changes, PySem.W.fnOf "changes" "changes" (defArgs s_changes) (defBody s_changes) (defScope s_changes) (.ref T_changes) kV_changes dc_changes pm_changes an_changes cd_changes ct_changes, f_put, PySem.W.fnOf "put" "put" (defArgs s_put) (defBody s_put) (defScope s_put) .none kV_put dc_put pm_put an_put cd_put ct_put, f_turned_back, PySem.W.fnOf "turned_back" "turned_back" (defArgs s_turned_back) (defBody s_turned_back) (defScope s_turned_back) .none kV_turned_back dc_turned_back pm_turned_back an_turned_back cd_turned_back ct_turned_back, f_added, PySem.W.fnOf "added" "added" (defArgs s_added) (defBody s_added) (defScope s_added) .none kV_added dc_added pm_added an_added cd_added ct_added, f_taken, PySem.W.fnOf "taken" "taken" (defArgs s_taken) (defBody s_taken) (defScope s_taken) .none kV_taken dc_taken pm_taken an_taken cd_taken ct_taken, f_joined, PySem.W.fnOf "joined" "joined" (defArgs s_joined) (defBody s_joined) (defScope s_joined) .none kV_joined dc_joined pm_joined an_joined cd_joined ct_joined, f_Counter___init__, PySem.W.fnOf "__init__" "Counter.__init__" (defArgs s_Counter___init__) (defBody s_Counter___init__) (defScope s_Counter___init__) .none kV_Counter___init__ dc_Counter___init__ pm_Counter___init__ an_Counter___init__ cd_Counter___init__ ct_Counter___init__, f_Counter_add, PySem.W.fnOf "add" "Counter.add" (defArgs s_Counter_add) (defBody s_Counter_add) (defScope s_Counter_add) .none kV_Counter_add dc_Counter_add pm_Counter_add an_Counter_add cd_Counter_add ct_Counter_add, f_Counter_take, PySem.W.fnOf "take" "Counter.take" (defArgs s_Counter_take) (defBody s_Counter_take) (defScope s_Counter_take) .none kV_Counter_take dc_Counter_take pm_Counter_take an_Counter_take cd_Counter_take ct_Counter_take, f_Counter_carry_out, PySem.W.fnOf "carry_out" "Counter.carry_out" (defArgs s_Counter_carry_out) (defBody s_Counter_carry_out) (defScope s_Counter_carry_out) .none kV_Counter_carry_out dc_Counter_carry_out pm_Counter_carry_out an_Counter_carry_out cd_Counter_carry_out ct_Counter_carry_out, f_Counter_undo, PySem.W.fnOf "undo" "Counter.undo" (defArgs s_Counter_undo) (defBody s_Counter_undo) (defScope s_Counter_undo) .none kV_Counter_undo dc_Counter_undo pm_Counter_undo an_Counter_undo cd_Counter_undo ct_Counter_undo, f_Counter_figures, PySem.W.fnOf "figures" "Counter.figures" (defArgs s_Counter_figures) (defBody s_Counter_figures) (defScope s_Counter_figures) .none kV_Counter_figures dc_Counter_figures pm_Counter_figures an_Counter_figures cd_Counter_figures ct_Counter_figures, f_Counter_amount, PySem.W.fnOf "amount" "Counter.amount" (defArgs s_Counter_amount) (defBody s_Counter_amount) (defScope s_Counter_amount) .none kV_Counter_amount dc_Counter_amount pm_Counter_amount an_Counter_amount cd_Counter_amount ct_Counter_amount, f_Counter_many, PySem.W.fnOf "many" "Counter.many" (defArgs s_Counter_many) (defBody s_Counter_many) (defScope s_Counter_many) .none kV_Counter_many dc_Counter_many pm_Counter_many an_Counter_many cd_Counter_many ct_Counter_many, f_shown, PySem.W.fnOf "shown" "shown" (defArgs s_shown) (defBody s_shown) (defScope s_shown) .none kV_shown dc_shown pm_shown an_shown cd_shown ct_shown, f_law_cell_at, PySem.W.fnOf "_law_cell_at" "_law_cell_at" (defArgs s_law_cell_at) (defBody s_law_cell_at) (defScope s_law_cell_at) .none kV_law_cell_at dc_law_cell_at pm_law_cell_at an_law_cell_at cd_law_cell_at ct_law_cell_at, f_law_calm, PySem.W.fnOf "_law_calm" "_law_calm" (defArgs s_law_calm) (defBody s_law_calm) (defScope s_law_calm) .none kV_law_calm dc_law_calm pm_law_calm an_law_calm cd_law_calm ct_law_calm, f_law_made_calm, PySem.W.fnOf "_law_made_calm" "_law_made_calm" (defArgs s_law_made_calm) (defBody s_law_made_calm) (defScope s_law_made_calm) .none kV_law_made_calm dc_law_made_calm pm_law_made_calm an_law_made_calm cd_law_made_calm ct_law_made_calm, f_law_spoiled, PySem.W.fnOf "_law_spoiled" "_law_spoiled" (defArgs s_law_spoiled) (defBody s_law_spoiled) (defScope s_law_spoiled) .none kV_law_spoiled dc_law_spoiled pm_law_spoiled an_law_spoiled cd_law_spoiled ct_law_spoiled, f_law_place, PySem.W.fnOf "_law_place" "_law_place" (defArgs s_law_place) (defBody s_law_place) (defScope s_law_place) .none kV_law_place dc_law_place pm_law_place an_law_place cd_law_place ct_law_place, f_law_asked, PySem.W.fnOf "_law_asked" "_law_asked" (defArgs s_law_asked) (defBody s_law_asked) (defScope s_law_asked) .none kV_law_asked dc_law_asked pm_law_asked an_law_asked cd_law_asked ct_law_asked, f_law_kinds, PySem.W.fnOf "_law_kinds" "_law_kinds" (defArgs s_law_kinds) (defBody s_law_kinds) (defScope s_law_kinds) .none kV_law_kinds dc_law_kinds pm_law_kinds an_law_kinds cd_law_kinds ct_law_kinds, f_law_told, PySem.W.fnOf "_law_told" "_law_told" (defArgs s_law_told) (defBody s_law_told) (defScope s_law_told) .none kV_law_told dc_law_told pm_law_told an_law_told cd_law_told ct_law_told, f_law_all_told, PySem.W.fnOf "_law_all_told" "_law_all_told" (defArgs s_law_all_told) (defBody s_law_all_told) (defScope s_law_all_told) .none kV_law_all_told dc_law_all_told pm_law_all_told an_law_all_told cd_law_all_told ct_law_all_told, f_law_deed_told, PySem.W.fnOf "_law_deed_told" "_law_deed_told" (defArgs s_law_deed_told) (defBody s_law_deed_told) (defScope s_law_deed_told) .none kV_law_deed_told dc_law_deed_told pm_law_deed_told an_law_deed_told cd_law_deed_told ct_law_deed_told, f_law_undo_told, PySem.W.fnOf "_law_undo_told" "_law_undo_told" (defArgs s_law_undo_told) (defBody s_law_undo_told) (defScope s_law_undo_told) .none kV_law_undo_told dc_law_undo_told pm_law_undo_told an_law_undo_told cd_law_undo_told ct_law_undo_told, f_law_counter, PySem.W.fnOf "_law_counter" "_law_counter" (defArgs s_law_counter) (defBody s_law_counter) (defScope s_law_counter) .none kV_law_counter dc_law_counter pm_law_counter an_law_counter cd_law_counter ct_law_counter, f_law, PySem.W.fnOf "law" "law" (defArgs s_law) (defBody s_law) (defScope s_law) .none kV_law dc_law pm_law an_law cd_law ct_law⟩ :=
  { cl_own := ⟨pg_own, hd_own, po_own, sa_own⟩
    mg_own := PySem.W.mg_of X G n_own
    mk_own := ⟨mk_own, a_Counter___init__, i_Counter___init__, kc_own⟩
    na_row := na_row
    na_deeds := na_deeds
    kt_NotCalm_CountError := kt_NotCalm_CountError
    es_NotCalm_CountError := es_NotCalm_CountError
    kt_NotCalm_NotCalm := kt_NotCalm_NotCalm
    es_NotCalm_NotCalm := es_NotCalm_NotCalm
    kt_NotCalm_NoPlace := kt_NotCalm_NoPlace
    kt_NotCalm_NothingDone := kt_NotCalm_NothingDone
    kt_NotCalm_NoText := kt_NotCalm_NoText
    kt_NotCalm_ValueError := kt_NotCalm_ValueError
    kt_NoPlace_CountError := kt_NoPlace_CountError
    es_NoPlace_CountError := es_NoPlace_CountError
    kt_NoPlace_NotCalm := kt_NoPlace_NotCalm
    kt_NoPlace_NoPlace := kt_NoPlace_NoPlace
    es_NoPlace_NoPlace := es_NoPlace_NoPlace
    kt_NoPlace_NothingDone := kt_NoPlace_NothingDone
    kt_NoPlace_NoText := kt_NoPlace_NoText
    kt_NoPlace_ValueError := kt_NoPlace_ValueError
    kt_NothingDone_CountError := kt_NothingDone_CountError
    es_NothingDone_CountError := es_NothingDone_CountError
    kt_NothingDone_NotCalm := kt_NothingDone_NotCalm
    kt_NothingDone_NoPlace := kt_NothingDone_NoPlace
    kt_NothingDone_NothingDone := kt_NothingDone_NothingDone
    es_NothingDone_NothingDone := es_NothingDone_NothingDone
    kt_NothingDone_NoText := kt_NothingDone_NoText
    kt_NothingDone_ValueError := kt_NothingDone_ValueError
    f_is_whole := ⟨fun_mk (st := s_is_whole) l_is_whole c_is_whole k_is_whole, PySem.W.mg_of X G a_is_whole, (fun_mk (st := s_is_whole) l_is_whole c_is_whole k_is_whole).binds fun _ _ _ _ _ _ us hl => len1 (P := fun us => bindArgs _ ⟨us, []⟩ = pure (List.zip _ us)) us hl (by exact fun _ => rfl)⟩
    f_is_figure := ⟨fun_mk (st := s_is_figure) l_is_figure c_is_figure k_is_figure, PySem.W.mg_of X G a_is_figure, (fun_mk (st := s_is_figure) l_is_figure c_is_figure k_is_figure).binds fun _ _ _ _ _ _ us hl => len1 (P := fun us => bindArgs _ ⟨us, []⟩ = pure (List.zip _ us)) us hl (by exact fun _ => rfl)⟩
    f_worth := ⟨fun_mk (st := s_worth) l_worth c_worth k_worth, PySem.W.mg_of X G a_worth, (fun_mk (st := s_worth) l_worth c_worth k_worth).binds fun _ _ _ _ _ _ us hl => len1 (P := fun us => bindArgs _ ⟨us, []⟩ = pure (List.zip _ us)) us hl (by exact fun _ => rfl)⟩
    f_twos_are_apart := ⟨fun_mk (st := s_twos_are_apart) l_twos_are_apart c_twos_are_apart k_twos_are_apart, PySem.W.mg_of X G a_twos_are_apart, (fun_mk (st := s_twos_are_apart) l_twos_are_apart c_twos_are_apart k_twos_are_apart).binds fun _ _ _ _ _ _ us hl => len1 (P := fun us => bindArgs _ ⟨us, []⟩ = pure (List.zip _ us)) us hl (by exact fun _ => rfl)⟩
    f_mirrored := ⟨fun_mk (st := s_mirrored) l_mirrored c_mirrored k_mirrored, PySem.W.mg_of X G a_mirrored, (fun_mk (st := s_mirrored) l_mirrored c_mirrored k_mirrored).binds fun _ _ _ _ _ _ us hl => len1 (P := fun us => bindArgs _ ⟨us, []⟩ = pure (List.zip _ us)) us hl (by exact fun _ => rfl)⟩
    f_is_calm := ⟨fun_mk (st := s_is_calm) l_is_calm c_is_calm k_is_calm, PySem.W.mg_of X G a_is_calm, (fun_mk (st := s_is_calm) l_is_calm c_is_calm k_is_calm).binds fun _ _ _ _ _ _ us hl => len1 (P := fun us => bindArgs _ ⟨us, []⟩ = pure (List.zip _ us)) us hl (by exact fun _ => rfl)⟩
    f_refuse_if_not_calm := ⟨fun_mk (st := s_refuse_if_not_calm) l_refuse_if_not_calm c_refuse_if_not_calm k_refuse_if_not_calm, PySem.W.mg_of X G a_refuse_if_not_calm, (fun_mk (st := s_refuse_if_not_calm) l_refuse_if_not_calm c_refuse_if_not_calm k_refuse_if_not_calm).binds fun _ _ _ _ _ _ us hl => len1 (P := fun us => bindArgs _ ⟨us, []⟩ = pure (List.zip _ us)) us hl (by exact fun _ => rfl)⟩
    f_settled := ⟨fun_mk (st := s_settled) l_settled c_settled k_settled, PySem.W.mg_of X G a_settled, (fun_mk (st := s_settled) l_settled c_settled k_settled).binds fun _ _ _ _ _ _ us hl => len1 (P := fun us => bindArgs _ ⟨us, []⟩ = pure (List.zip _ us)) us hl (by exact fun _ => rfl)⟩
    f_refuse_if_no_place := ⟨fun_mk (st := s_refuse_if_no_place) l_refuse_if_no_place c_refuse_if_no_place k_refuse_if_no_place, PySem.W.mg_of X G a_refuse_if_no_place, (fun_mk (st := s_refuse_if_no_place) l_refuse_if_no_place c_refuse_if_no_place k_refuse_if_no_place).binds fun _ _ _ _ _ _ us hl => len1 (P := fun us => bindArgs _ ⟨us, []⟩ = pure (List.zip _ us)) us hl (by exact fun _ => rfl)⟩
    f_mirror := ⟨fun_mk (st := s_mirror) l_mirror c_mirror k_mirror, PySem.W.mg_of X G a_mirror, (fun_mk (st := s_mirror) l_mirror c_mirror k_mirror).binds fun _ _ _ _ _ _ us hl => len2 (P := fun us => bindArgs _ ⟨us, []⟩ = pure (List.zip _ us)) us hl (by exact fun _ _ => rfl)⟩
    f_figure_at := ⟨fun_mk (st := s_figure_at) l_figure_at c_figure_at k_figure_at, PySem.W.mg_of X G a_figure_at, (fun_mk (st := s_figure_at) l_figure_at c_figure_at k_figure_at).binds fun _ _ _ _ _ _ us hl => len2 (P := fun us => bindArgs _ ⟨us, []⟩ = pure (List.zip _ us)) us hl (by exact fun _ _ => rfl)⟩
    f_seen := ⟨fun_mk (st := s_seen) l_seen c_seen k_seen, PySem.W.mg_of X G a_seen, (fun_mk (st := s_seen) l_seen c_seen k_seen).binds fun _ _ _ _ _ _ us hl => len3 (P := fun us => bindArgs _ ⟨us, []⟩ = pure (List.zip _ us)) us hl (by exact fun _ _ _ => rfl)⟩
    f_first_above := ⟨fun_mk (st := s_first_above) l_first_above c_first_above k_first_above, PySem.W.mg_of X G a_first_above, (fun_mk (st := s_first_above) l_first_above c_first_above k_first_above).binds fun _ _ _ _ _ _ us hl => len3 (P := fun us => bindArgs _ ⟨us, []⟩ = pure (List.zip _ us)) us hl (by exact fun _ _ _ => rfl)⟩
    f_finds_two_below := ⟨fun_mk (st := s_finds_two_below) l_finds_two_below c_finds_two_below k_finds_two_below, PySem.W.mg_of X G a_finds_two_below, (fun_mk (st := s_finds_two_below) l_finds_two_below c_finds_two_below k_finds_two_below).binds fun _ _ _ _ _ _ us hl => len3 (P := fun us => bindArgs _ ⟨us, []⟩ = pure (List.zip _ us)) us hl (by exact fun _ _ _ => rfl)⟩
    f_grown := ⟨fun_mk (st := s_grown) l_grown c_grown k_grown, PySem.W.mg_of X G a_grown, (fun_mk (st := s_grown) l_grown c_grown k_grown).binds fun _ _ _ _ _ _ us hl => len3 (P := fun us => bindArgs _ ⟨us, []⟩ = pure (List.zip _ us)) us hl (by exact fun _ _ _ => rfl)⟩
    f_figures_behind := ⟨fun_mk (st := s_figures_behind) l_figures_behind c_figures_behind k_figures_behind, PySem.W.mg_of X G a_figures_behind, (fun_mk (st := s_figures_behind) l_figures_behind c_figures_behind k_figures_behind).binds fun _ _ _ _ _ _ us hl => len3 (P := fun us => bindArgs _ ⟨us, []⟩ = pure (List.zip _ us)) us hl (by exact fun _ _ _ => rfl)⟩
    f_step := ⟨fun_mk (st := s_step) l_step c_step k_step, PySem.W.mg_of X G a_step, (fun_mk (st := s_step) l_step c_step k_step).binds fun _ _ _ _ _ _ us hl => len3 (P := fun us => bindArgs _ ⟨us, []⟩ = pure (List.zip _ us)) us hl (by exact fun _ _ _ => rfl)⟩
    f_changes := ⟨funD_mk (st := s_changes) l_changes c_changes k_changes, PySem.W.mg_of X G a_changes, bn30 rfl fun s a b c X => BindsTo.of_defaults rfl (X _ _ t_changes) rfl rfl rfl, bn21 rfl fun s a b X => BindsTo.of_defaults rfl (X _ _ t_changes) rfl rfl rfl⟩
    f_put := ⟨fun_mk (st := s_put) l_put c_put k_put, PySem.W.mg_of X G a_put, (fun_mk (st := s_put) l_put c_put k_put).binds fun _ _ _ _ _ _ us hl => len2 (P := fun us => bindArgs _ ⟨us, []⟩ = pure (List.zip _ us)) us hl (by exact fun _ _ => rfl)⟩
    f_turned_back := ⟨fun_mk (st := s_turned_back) l_turned_back c_turned_back k_turned_back, PySem.W.mg_of X G a_turned_back, (fun_mk (st := s_turned_back) l_turned_back c_turned_back k_turned_back).binds fun _ _ _ _ _ _ us hl => len1 (P := fun us => bindArgs _ ⟨us, []⟩ = pure (List.zip _ us)) us hl (by exact fun _ => rfl)⟩
    f_added := ⟨fun_mk (st := s_added) l_added c_added k_added, PySem.W.mg_of X G a_added, (fun_mk (st := s_added) l_added c_added k_added).binds fun _ _ _ _ _ _ us hl => len2 (P := fun us => bindArgs _ ⟨us, []⟩ = pure (List.zip _ us)) us hl (by exact fun _ _ => rfl)⟩
    f_taken := ⟨fun_mk (st := s_taken) l_taken c_taken k_taken, PySem.W.mg_of X G a_taken, (fun_mk (st := s_taken) l_taken c_taken k_taken).binds fun _ _ _ _ _ _ us hl => len2 (P := fun us => bindArgs _ ⟨us, []⟩ = pure (List.zip _ us)) us hl (by exact fun _ _ => rfl)⟩
    f_joined := ⟨fun_mk (st := s_joined) l_joined c_joined k_joined, PySem.W.mg_of X G a_joined, (fun_mk (st := s_joined) l_joined c_joined k_joined).binds fun _ _ _ _ _ _ us hl => len2 (P := fun us => bindArgs _ ⟨us, []⟩ = pure (List.zip _ us)) us hl (by exact fun _ _ => rfl)⟩
    f_Counter___init__ := ⟨fun_mk (st := s_Counter___init__) l_Counter___init__ c_Counter___init__ k_Counter___init__, (fun_mk (st := s_Counter___init__) l_Counter___init__ c_Counter___init__ k_Counter___init__).binds fun _ _ _ _ _ _ us hl => len1 (P := fun us => bindArgs _ ⟨us, []⟩ = pure (List.zip _ us)) us hl (by exact fun _ => rfl)⟩
    f_Counter_add := ⟨fun_mk (st := s_Counter_add) l_Counter_add c_Counter_add k_Counter_add, (fun_mk (st := s_Counter_add) l_Counter_add c_Counter_add k_Counter_add).binds fun _ _ _ _ _ _ us hl => len2 (P := fun us => bindArgs _ ⟨us, []⟩ = pure (List.zip _ us)) us hl (by exact fun _ _ => rfl)⟩
    m_add := ⟨a_Counter_add, i_Counter_add, k_Counter_add⟩
    f_Counter_take := ⟨fun_mk (st := s_Counter_take) l_Counter_take c_Counter_take k_Counter_take, (fun_mk (st := s_Counter_take) l_Counter_take c_Counter_take k_Counter_take).binds fun _ _ _ _ _ _ us hl => len2 (P := fun us => bindArgs _ ⟨us, []⟩ = pure (List.zip _ us)) us hl (by exact fun _ _ => rfl)⟩
    m_take := ⟨a_Counter_take, i_Counter_take, k_Counter_take⟩
    f_Counter_carry_out := ⟨fun_mk (st := s_Counter_carry_out) l_Counter_carry_out c_Counter_carry_out k_Counter_carry_out, (fun_mk (st := s_Counter_carry_out) l_Counter_carry_out c_Counter_carry_out k_Counter_carry_out).binds fun _ _ _ _ _ _ us hl => len3 (P := fun us => bindArgs _ ⟨us, []⟩ = pure (List.zip _ us)) us hl (by exact fun _ _ _ => rfl)⟩
    m_carry_out := ⟨a_Counter_carry_out, i_Counter_carry_out, k_Counter_carry_out⟩
    f_Counter_undo := ⟨fun_mk (st := s_Counter_undo) l_Counter_undo c_Counter_undo k_Counter_undo, (fun_mk (st := s_Counter_undo) l_Counter_undo c_Counter_undo k_Counter_undo).binds fun _ _ _ _ _ _ us hl => len1 (P := fun us => bindArgs _ ⟨us, []⟩ = pure (List.zip _ us)) us hl (by exact fun _ => rfl)⟩
    m_undo := ⟨a_Counter_undo, i_Counter_undo, k_Counter_undo⟩
    f_Counter_figures := ⟨fun_mk (st := s_Counter_figures) l_Counter_figures c_Counter_figures k_Counter_figures, (fun_mk (st := s_Counter_figures) l_Counter_figures c_Counter_figures k_Counter_figures).binds fun _ _ _ _ _ _ us hl => len1 (P := fun us => bindArgs _ ⟨us, []⟩ = pure (List.zip _ us)) us hl (by exact fun _ => rfl)⟩
    m_figures := ⟨a_Counter_figures, i_Counter_figures, k_Counter_figures⟩
    f_Counter_amount := ⟨fun_mk (st := s_Counter_amount) l_Counter_amount c_Counter_amount k_Counter_amount, (fun_mk (st := s_Counter_amount) l_Counter_amount c_Counter_amount k_Counter_amount).binds fun _ _ _ _ _ _ us hl => len1 (P := fun us => bindArgs _ ⟨us, []⟩ = pure (List.zip _ us)) us hl (by exact fun _ => rfl)⟩
    m_amount := ⟨a_Counter_amount, i_Counter_amount, k_Counter_amount⟩
    f_Counter_many := ⟨fun_mk (st := s_Counter_many) l_Counter_many c_Counter_many k_Counter_many, (fun_mk (st := s_Counter_many) l_Counter_many c_Counter_many k_Counter_many).binds fun _ _ _ _ _ _ us hl => len1 (P := fun us => bindArgs _ ⟨us, []⟩ = pure (List.zip _ us)) us hl (by exact fun _ => rfl)⟩
    m_many := ⟨a_Counter_many, i_Counter_many, k_Counter_many⟩
    f_shown := ⟨fun_mk (st := s_shown) l_shown c_shown k_shown, PySem.W.mg_of X G a_shown, (fun_mk (st := s_shown) l_shown c_shown k_shown).binds fun _ _ _ _ _ _ us hl => len1 (P := fun us => bindArgs _ ⟨us, []⟩ = pure (List.zip _ us)) us hl (by exact fun _ => rfl)⟩
    f_law_cell_at := ⟨fun_mk (st := s_law_cell_at) l_law_cell_at c_law_cell_at k_law_cell_at, PySem.W.mg_of X G a_law_cell_at, (fun_mk (st := s_law_cell_at) l_law_cell_at c_law_cell_at k_law_cell_at).binds fun _ _ _ _ _ _ us hl => len2 (P := fun us => bindArgs _ ⟨us, []⟩ = pure (List.zip _ us)) us hl (by exact fun _ _ => rfl)⟩
    f_law_calm := ⟨fun_mk (st := s_law_calm) l_law_calm c_law_calm k_law_calm, PySem.W.mg_of X G a_law_calm, (fun_mk (st := s_law_calm) l_law_calm c_law_calm k_law_calm).binds fun _ _ _ _ _ _ us hl => len1 (P := fun us => bindArgs _ ⟨us, []⟩ = pure (List.zip _ us)) us hl (by exact fun _ => rfl)⟩
    f_law_made_calm := ⟨fun_mk (st := s_law_made_calm) l_law_made_calm c_law_made_calm k_law_made_calm, PySem.W.mg_of X G a_law_made_calm, (fun_mk (st := s_law_made_calm) l_law_made_calm c_law_made_calm k_law_made_calm).binds fun _ _ _ _ _ _ us hl => len1 (P := fun us => bindArgs _ ⟨us, []⟩ = pure (List.zip _ us)) us hl (by exact fun _ => rfl)⟩
    f_law_spoiled := ⟨fun_mk (st := s_law_spoiled) l_law_spoiled c_law_spoiled k_law_spoiled, PySem.W.mg_of X G a_law_spoiled, (fun_mk (st := s_law_spoiled) l_law_spoiled c_law_spoiled k_law_spoiled).binds fun _ _ _ _ _ _ us hl => len2 (P := fun us => bindArgs _ ⟨us, []⟩ = pure (List.zip _ us)) us hl (by exact fun _ _ => rfl)⟩
    f_law_place := ⟨fun_mk (st := s_law_place) l_law_place c_law_place k_law_place, PySem.W.mg_of X G a_law_place, (fun_mk (st := s_law_place) l_law_place c_law_place k_law_place).binds fun _ _ _ _ _ _ us hl => len2 (P := fun us => bindArgs _ ⟨us, []⟩ = pure (List.zip _ us)) us hl (by exact fun _ _ => rfl)⟩
    f_law_asked := ⟨fun_mk (st := s_law_asked) l_law_asked c_law_asked k_law_asked, PySem.W.mg_of X G a_law_asked, (fun_mk (st := s_law_asked) l_law_asked c_law_asked k_law_asked).binds fun _ _ _ _ _ _ us hl => len3 (P := fun us => bindArgs _ ⟨us, []⟩ = pure (List.zip _ us)) us hl (by exact fun _ _ _ => rfl)⟩
    f_law_kinds := ⟨fun_mk (st := s_law_kinds) l_law_kinds c_law_kinds k_law_kinds, PySem.W.mg_of X G a_law_kinds, (fun_mk (st := s_law_kinds) l_law_kinds c_law_kinds k_law_kinds).binds fun _ _ _ _ _ _ us hl => len1 (P := fun us => bindArgs _ ⟨us, []⟩ = pure (List.zip _ us)) us hl (by exact fun _ => rfl)⟩
    f_law_told := ⟨fun_mk (st := s_law_told) l_law_told c_law_told k_law_told, PySem.W.mg_of X G a_law_told, (fun_mk (st := s_law_told) l_law_told c_law_told k_law_told).binds fun _ _ _ _ _ _ us hl => len3 (P := fun us => bindArgs _ ⟨us, []⟩ = pure (List.zip _ us)) us hl (by exact fun _ _ _ => rfl)⟩
    f_law_all_told := ⟨fun_mk (st := s_law_all_told) l_law_all_told c_law_all_told k_law_all_told, PySem.W.mg_of X G a_law_all_told, (fun_mk (st := s_law_all_told) l_law_all_told c_law_all_told k_law_all_told).binds fun _ _ _ _ _ _ us hl => len3 (P := fun us => bindArgs _ ⟨us, []⟩ = pure (List.zip _ us)) us hl (by exact fun _ _ _ => rfl)⟩
    f_law_deed_told := ⟨fun_mk (st := s_law_deed_told) l_law_deed_told c_law_deed_told k_law_deed_told, PySem.W.mg_of X G a_law_deed_told, (fun_mk (st := s_law_deed_told) l_law_deed_told c_law_deed_told k_law_deed_told).binds fun _ _ _ _ _ _ us hl => len3 (P := fun us => bindArgs _ ⟨us, []⟩ = pure (List.zip _ us)) us hl (by exact fun _ _ _ => rfl)⟩
    f_law_undo_told := ⟨fun_mk (st := s_law_undo_told) l_law_undo_told c_law_undo_told k_law_undo_told, PySem.W.mg_of X G a_law_undo_told, (fun_mk (st := s_law_undo_told) l_law_undo_told c_law_undo_told k_law_undo_told).binds fun _ _ _ _ _ _ us hl => len1 (P := fun us => bindArgs _ ⟨us, []⟩ = pure (List.zip _ us)) us hl (by exact fun _ => rfl)⟩
    f_law_counter := ⟨fun_mk (st := s_law_counter) l_law_counter c_law_counter k_law_counter, PySem.W.mg_of X G a_law_counter, (fun_mk (st := s_law_counter) l_law_counter c_law_counter k_law_counter).binds fun _ _ _ _ _ _ us hl => len4 (P := fun us => bindArgs _ ⟨us, []⟩ = pure (List.zip _ us)) us hl (by exact fun _ _ _ _ => rfl)⟩
    f_law := ⟨fun_mk (st := s_law) l_law c_law k_law, PySem.W.mg_of X G a_law, (fun_mk (st := s_law) l_law c_law k_law).binds fun _ _ _ _ _ _ us hl => len1 (P := fun us => bindArgs _ ⟨us, []⟩ = pure (List.zip _ us)) us hl (by exact fun _ => rfl)⟩
    e_CountError := ⟨PySem.W.mg_of X G n_CountError, q_CountError⟩
    e_NotCalm := ⟨PySem.W.mg_of X G n_NotCalm, q_NotCalm⟩
    e_NoPlace := ⟨PySem.W.mg_of X G n_NoPlace, q_NoPlace⟩
    e_NothingDone := ⟨PySem.W.mg_of X G n_NothingDone, q_NothingDone⟩
    e_NoText := ⟨PySem.W.mg_of X G n_NoText, q_NoText⟩
    x_NotCalm := ⟨q_NotCalm, x1_NotCalm, x2_NotCalm, x3_NotCalm, x4_NotCalm⟩
    x_NoPlace := ⟨q_NoPlace, x1_NoPlace, x2_NoPlace, x3_NoPlace, x4_NoPlace⟩
    x_NothingDone := ⟨q_NothingDone, x1_NothingDone, x2_NothingDone, x3_NothingDone, x4_NothingDone⟩
    b_isinstance := PySem.W.mg_none_of X G z_isinstance
    b_int := PySem.W.mg_none_of X G z_int
    b_bool := PySem.W.mg_none_of X G z_bool
    b_reversed := PySem.W.mg_none_of X G z_reversed
    b_len := PySem.W.mg_none_of X G z_len
    b_list := PySem.W.mg_none_of X G z_list
    b_enumerate := PySem.W.mg_none_of X G z_enumerate
    b_range := PySem.W.mg_none_of X G z_range
    b_abs := PySem.W.mg_none_of X G z_abs
    b_ValueError := PySem.W.mg_none_of X G z_ValueError
    g_LAST_PLACE := ⟨_, PySem.W.mg_of X G g_LAST_PLACE, _, rfl⟩
    g_SIGNS := ⟨_, PySem.W.mg_of X G g_SIGNS, _, rfl⟩ }
theorem walk {l : PySem.W.OpenLaw} {q : Program} {loose : List Str} {XP : (Str → Option Value) → Heap → Prop} {YP : World → Heap → Prop} {d : DefRec} {K : Params → PySem.W.Frag} (hn : l.most = some 63) (hdf : d.params.defaults = [])
    (hY : ∀ (w : World) (h : Heap), YP w h → (K w.params).In h)
    (F : ∀ (w : World) (mg : Str → Option Value) (fa : Addr) (h : Heap), (K w.params).In h → h.Ns mainGlobals mg → mg d.name = some (.ref fa) →
      ∃ fd : FuncData, (∀ (s : Shared) (u : Value), BindsTo s fd ⟨[u], []⟩ [("_law_script", u)]) ∧ ∀ base : Heap, (K w.params).In base → base.Ns mainGlobals mg → FnOk l.prog w (K w.params) mg base CX0 11 fa fd ["_law_script"] (sp_law (K w.params))) :
    PySem.W.WalkO q loose XP YP l.row.toRowW d [] (fun f vs => PySem.call f vs) :=
  L2.walk_of (n := 63) (k := 11) (x := "_law_script") (CX := fun _ => CX0) (sp := fun w => sp_law (K w.params)) hn (by decide) hdf ⟨rfl, by decide, by decide⟩ hY F (fun _ _ a ns hl _ hS => ⟨a, ns, rfl, hS, hl, fun _ => rfl⟩) fun _ _ _ _ _ z => z
theorem all_mk {l : PySem.W.OpenLaw} {w : World} {K : PySem.W.Frag} {mg : Str → Option Value} {t : Adr} {fa : Addr} (T : Txt K mg t) (hfa : mg "law" = some (.ref fa)) (hd : ∀ (s : Shared) (v : Value), BindsTo s t.d_law ⟨[v], []⟩ [("_law_script", v)]) :
    ∃ fd : FuncData, (∀ (s : Shared) (v : Value), BindsTo s fd ⟨[v], []⟩ [("_law_script", v)]) ∧ ∀ base : Heap, K.In base → base.Ns mainGlobals mg → FnOk l.prog w K mg base CX0 11 fa fd ["_law_script"] (sp_law K) := by
  have e := hfa.symm.trans T.f_law.mg
  cases e
  refine ⟨t.d_law, hd, fun base _ _ => ?_⟩
  have GI := all_calm (P := l.prog) (w := w) (base := base) T
  have GS := all_step (P := l.prog) (w := w) (base := base) T
  have GC := all_changes (P := l.prog) (w := w) (base := base) T
  have GP := ok_put (P := l.prog) (w := w) (base := base) T
  have GE := ok_refCalmE (P := l.prog) (w := w) (base := base) T GI
  have GN := ok_noPlace (P := l.prog) (w := w) (base := base) T ((ok_iswhole T).or (ok_noint T))
  have GRP := ok_refPlace (P := l.prog) (w := w) (base := base) T (ok_iswhole T)
  have GCB := ok_chBad (P := l.prog) (w := w) (base := base) T (GRP.up.or GN) GE GS
  have GJ := ok_joined (P := l.prog) (w := w) (base := base) T (ok_refCalm T GI) GP GS
  have GA := ok_asked (P := l.prog) (w := w) (base := base) T (GC.up.or GCB) ((ok_added T GP GC).up.or (ok_adBad T GP GCB)) ((ok_taken T GP GC).up.or (ok_taBad T GP GCB)) (ok_settledE T GE) (ok_shown T GE) (GJ.up.or (ok_joBad T GE GP GS))
  have GK := ok_kinds (P := l.prog) (w := w) (base := base) T
  have GCA := ok_carry (P := l.prog) (w := w) (base := base) T GRP GP GS
  have GCAB := ok_caBad (P := l.prog) (w := w) (base := base) T GN GP GS
  have GAD := (ok_cadd (P := l.prog) (w := w) (base := base) T GCA).up.or (ok_caddBad T GCAB)
  have GTA := (ok_ctake (P := l.prog) (w := w) (base := base) T GCA).up.or (ok_ctakeBad T GCAB)
  have GAT := ok_all (P := l.prog) (w := w) (base := base) T (ok_told T GA GK) (ok_lcalm T)
  have GCO := ok_counter (P := l.prog) (w := w) (base := base) T (ok_cinit T) (ok_undoTold T (ok_undo T GP (ok_back T)) GK) (ok_deedTold T GAD GTA GK) GAD (ok_figures T) (ok_amount T (ok_worth T)) (ok_many T)
  exact ok_law T (ok_made T) (ok_spoiled T (ok_cell T)) (ok_cell T) (ok_place T) GAT GC GCO
end My
theorem PySem.W.Fast.tw2707094163586736078 : True := trivial -- own, and said in NOTE.md: this name is taken so that the head makes no twin of its heap_39, which nothing uses (4.6 MB compiled)
theorem PySem.W.Fast.tw9772346859042773326 : True := trivial -- the same for heap_454 (9.9 MB): the head's own way without a twin is taken, and the kernel checks it all
open PySem PySem.W PyProof.Rows
set_option maxRecDepth 100000 in
set_option maxHeartbeats 0 in
theorem PySem.Challenge.cw_calmcount_k08_refused_holds : PySem.Challenge.rw_calmcount_k08_refused.Holds := by
  w_on; o_law; k_head; (case hw => w_witness2)
  k_fill
  refine My.walk (l := PySem.Challenge.rw_calmcount_k08_refused) rfl rfl (fun w h Y => PySem.W.kIn_of Y) ?F
  case F =>
    intro w mg fa h KX G hmg
    refine' My.all_mk (w := w) (My.txt_mk KX G ?n_own ?pg_own ?hd_own ?po_own ?sa_own ?mk_own ?kc_own ?na_row ?na_deeds ?a_is_whole ?l_is_whole ?c_is_whole ?k_is_whole ?a_is_figure ?l_is_figure ?c_is_figure ?k_is_figure ?a_worth ?l_worth ?c_worth ?k_worth ?a_twos_are_apart ?l_twos_are_apart ?c_twos_are_apart ?k_twos_are_apart ?a_mirrored ?l_mirrored ?c_mirrored ?k_mirrored ?a_is_calm ?l_is_calm ?c_is_calm ?k_is_calm ?a_refuse_if_not_calm ?l_refuse_if_not_calm ?c_refuse_if_not_calm ?k_refuse_if_not_calm ?a_settled ?l_settled ?c_settled ?k_settled ?a_refuse_if_no_place ?l_refuse_if_no_place ?c_refuse_if_no_place ?k_refuse_if_no_place ?a_mirror ?l_mirror ?c_mirror ?k_mirror ?a_figure_at ?l_figure_at ?c_figure_at ?k_figure_at ?a_seen ?l_seen ?c_seen ?k_seen ?a_first_above ?l_first_above ?c_first_above ?k_first_above ?a_finds_two_below ?l_finds_two_below ?c_finds_two_below ?k_finds_two_below ?a_grown ?l_grown ?c_grown ?k_grown ?a_figures_behind ?l_figures_behind ?c_figures_behind ?k_figures_behind ?a_step ?l_step ?c_step ?k_step ?a_changes ?l_changes ?c_changes ?k_changes ?t_changes ?a_put ?l_put ?c_put ?k_put ?a_turned_back ?l_turned_back ?c_turned_back ?k_turned_back ?a_added ?l_added ?c_added ?k_added ?a_taken ?l_taken ?c_taken ?k_taken ?a_joined ?l_joined ?c_joined ?k_joined ?a_Counter___init__ ?i_Counter___init__ ?l_Counter___init__ ?c_Counter___init__ ?k_Counter___init__ ?a_Counter_add ?i_Counter_add ?l_Counter_add ?c_Counter_add ?k_Counter_add ?a_Counter_take ?i_Counter_take ?l_Counter_take ?c_Counter_take ?k_Counter_take ?a_Counter_carry_out ?i_Counter_carry_out ?l_Counter_carry_out ?c_Counter_carry_out ?k_Counter_carry_out ?a_Counter_undo ?i_Counter_undo ?l_Counter_undo ?c_Counter_undo ?k_Counter_undo ?a_Counter_figures ?i_Counter_figures ?l_Counter_figures ?c_Counter_figures ?k_Counter_figures ?a_Counter_amount ?i_Counter_amount ?l_Counter_amount ?c_Counter_amount ?k_Counter_amount ?a_Counter_many ?i_Counter_many ?l_Counter_many ?c_Counter_many ?k_Counter_many ?a_shown ?l_shown ?c_shown ?k_shown ?a_law_cell_at ?l_law_cell_at ?c_law_cell_at ?k_law_cell_at ?a_law_calm ?l_law_calm ?c_law_calm ?k_law_calm ?a_law_made_calm ?l_law_made_calm ?c_law_made_calm ?k_law_made_calm ?a_law_spoiled ?l_law_spoiled ?c_law_spoiled ?k_law_spoiled ?a_law_place ?l_law_place ?c_law_place ?k_law_place ?a_law_asked ?l_law_asked ?c_law_asked ?k_law_asked ?a_law_kinds ?l_law_kinds ?c_law_kinds ?k_law_kinds ?a_law_told ?l_law_told ?c_law_told ?k_law_told ?a_law_all_told ?l_law_all_told ?c_law_all_told ?k_law_all_told ?a_law_deed_told ?l_law_deed_told ?c_law_deed_told ?k_law_deed_told ?a_law_undo_told ?l_law_undo_told ?c_law_undo_told ?k_law_undo_told ?a_law_counter ?l_law_counter ?c_law_counter ?k_law_counter ?a_law ?l_law ?c_law ?k_law ?n_CountError ?q_CountError ?n_NotCalm ?q_NotCalm ?n_NoPlace ?q_NoPlace ?n_NothingDone ?q_NothingDone ?n_NoText ?q_NoText ?x1_NotCalm ?x2_NotCalm ?x3_NotCalm ?x4_NotCalm ?x1_NoPlace ?x2_NoPlace ?x3_NoPlace ?x4_NoPlace ?x1_NothingDone ?x2_NothingDone ?x3_NothingDone ?x4_NothingDone ?kt_NotCalm_CountError ?es_NotCalm_CountError ?kt_NotCalm_NotCalm ?es_NotCalm_NotCalm ?kt_NotCalm_NoPlace ?kt_NotCalm_NothingDone ?kt_NotCalm_NoText ?kt_NotCalm_ValueError ?kt_NoPlace_CountError ?es_NoPlace_CountError ?kt_NoPlace_NotCalm ?kt_NoPlace_NoPlace ?es_NoPlace_NoPlace ?kt_NoPlace_NothingDone ?kt_NoPlace_NoText ?kt_NoPlace_ValueError ?kt_NothingDone_CountError ?es_NothingDone_CountError ?kt_NothingDone_NotCalm ?kt_NothingDone_NoPlace ?kt_NothingDone_NothingDone ?es_NothingDone_NothingDone ?kt_NothingDone_NoText ?kt_NothingDone_ValueError ?z_isinstance ?z_int ?z_bool ?z_reversed ?z_len ?z_list ?z_enumerate ?z_range ?z_abs ?z_ValueError ?g_LAST_PLACE ?g_SIGNS) hmg (fun s v => .of_eq rfl)
    (case n_own => k_is)
    (case pg_own => k_is)
    (case hd_own => k_is)
    (case po_own => k_is)
    (case sa_own => k_is)
    (case mk_own => k_is)
    (case kc_own => k_is)
    (case na_row => k_is)
    (case na_deeds => k_is)
    (case a_is_whole => k_is)
    (case l_is_whole => k_is)
    (case c_is_whole => k_is)
    (case k_is_whole => k_is)
    (case a_is_figure => k_is)
    (case l_is_figure => k_is)
    (case c_is_figure => k_is)
    (case k_is_figure => k_is)
    (case a_worth => k_is)
    (case l_worth => k_is)
    (case c_worth => k_is)
    (case k_worth => k_is)
    (case a_twos_are_apart => k_is)
    (case l_twos_are_apart => k_is)
    (case c_twos_are_apart => k_is)
    (case k_twos_are_apart => k_is)
    (case a_mirrored => k_is)
    (case l_mirrored => k_is)
    (case c_mirrored => k_is)
    (case k_mirrored => k_is)
    (case a_is_calm => k_is)
    (case l_is_calm => k_is)
    (case c_is_calm => k_is)
    (case k_is_calm => k_is)
    (case a_refuse_if_not_calm => k_is)
    (case l_refuse_if_not_calm => k_is)
    (case c_refuse_if_not_calm => k_is)
    (case k_refuse_if_not_calm => k_is)
    (case a_settled => k_is)
    (case l_settled => k_is)
    (case c_settled => k_is)
    (case k_settled => k_is)
    (case a_refuse_if_no_place => k_is)
    (case l_refuse_if_no_place => k_is)
    (case c_refuse_if_no_place => k_is)
    (case k_refuse_if_no_place => k_is)
    (case a_mirror => k_is)
    (case l_mirror => k_is)
    (case c_mirror => k_is)
    (case k_mirror => k_is)
    (case a_figure_at => k_is)
    (case l_figure_at => k_is)
    (case c_figure_at => k_is)
    (case k_figure_at => k_is)
    (case a_seen => k_is)
    (case l_seen => k_is)
    (case c_seen => k_is)
    (case k_seen => k_is)
    (case a_first_above => k_is)
    (case l_first_above => k_is)
    (case c_first_above => k_is)
    (case k_first_above => k_is)
    (case a_finds_two_below => k_is)
    (case l_finds_two_below => k_is)
    (case c_finds_two_below => k_is)
    (case k_finds_two_below => k_is)
    (case a_grown => k_is)
    (case l_grown => k_is)
    (case c_grown => k_is)
    (case k_grown => k_is)
    (case a_figures_behind => k_is)
    (case l_figures_behind => k_is)
    (case c_figures_behind => k_is)
    (case k_figures_behind => k_is)
    (case a_step => k_is)
    (case l_step => k_is)
    (case c_step => k_is)
    (case k_step => k_is)
    (case a_changes => k_is)
    (case l_changes => k_is)
    (case c_changes => k_is)
    (case k_changes => k_is)
    (case t_changes => k_is)
    (case a_put => k_is)
    (case l_put => k_is)
    (case c_put => k_is)
    (case k_put => k_is)
    (case a_turned_back => k_is)
    (case l_turned_back => k_is)
    (case c_turned_back => k_is)
    (case k_turned_back => k_is)
    (case a_added => k_is)
    (case l_added => k_is)
    (case c_added => k_is)
    (case k_added => k_is)
    (case a_taken => k_is)
    (case l_taken => k_is)
    (case c_taken => k_is)
    (case k_taken => k_is)
    (case a_joined => k_is)
    (case l_joined => k_is)
    (case c_joined => k_is)
    (case k_joined => k_is)
    (case a_Counter___init__ => k_is)
    (case i_Counter___init__ => k_is)
    (case l_Counter___init__ => k_is)
    (case c_Counter___init__ => k_is)
    (case k_Counter___init__ => k_is)
    (case a_Counter_add => k_is)
    (case i_Counter_add => k_is)
    (case l_Counter_add => k_is)
    (case c_Counter_add => k_is)
    (case k_Counter_add => k_is)
    (case a_Counter_take => k_is)
    (case i_Counter_take => k_is)
    (case l_Counter_take => k_is)
    (case c_Counter_take => k_is)
    (case k_Counter_take => k_is)
    (case a_Counter_carry_out => k_is)
    (case i_Counter_carry_out => k_is)
    (case l_Counter_carry_out => k_is)
    (case c_Counter_carry_out => k_is)
    (case k_Counter_carry_out => k_is)
    (case a_Counter_undo => k_is)
    (case i_Counter_undo => k_is)
    (case l_Counter_undo => k_is)
    (case c_Counter_undo => k_is)
    (case k_Counter_undo => k_is)
    (case a_Counter_figures => k_is)
    (case i_Counter_figures => k_is)
    (case l_Counter_figures => k_is)
    (case c_Counter_figures => k_is)
    (case k_Counter_figures => k_is)
    (case a_Counter_amount => k_is)
    (case i_Counter_amount => k_is)
    (case l_Counter_amount => k_is)
    (case c_Counter_amount => k_is)
    (case k_Counter_amount => k_is)
    (case a_Counter_many => k_is)
    (case i_Counter_many => k_is)
    (case l_Counter_many => k_is)
    (case c_Counter_many => k_is)
    (case k_Counter_many => k_is)
    (case a_shown => k_is)
    (case l_shown => k_is)
    (case c_shown => k_is)
    (case k_shown => k_is)
    (case a_law_cell_at => k_is)
    (case l_law_cell_at => k_is)
    (case c_law_cell_at => k_is)
    (case k_law_cell_at => k_is)
    (case a_law_calm => k_is)
    (case l_law_calm => k_is)
    (case c_law_calm => k_is)
    (case k_law_calm => k_is)
    (case a_law_made_calm => k_is)
    (case l_law_made_calm => k_is)
    (case c_law_made_calm => k_is)
    (case k_law_made_calm => k_is)
    (case a_law_spoiled => k_is)
    (case l_law_spoiled => k_is)
    (case c_law_spoiled => k_is)
    (case k_law_spoiled => k_is)
    (case a_law_place => k_is)
    (case l_law_place => k_is)
    (case c_law_place => k_is)
    (case k_law_place => k_is)
    (case a_law_asked => k_is)
    (case l_law_asked => k_is)
    (case c_law_asked => k_is)
    (case k_law_asked => k_is)
    (case a_law_kinds => k_is)
    (case l_law_kinds => k_is)
    (case c_law_kinds => k_is)
    (case k_law_kinds => k_is)
    (case a_law_told => k_is)
    (case l_law_told => k_is)
    (case c_law_told => k_is)
    (case k_law_told => k_is)
    (case a_law_all_told => k_is)
    (case l_law_all_told => k_is)
    (case c_law_all_told => k_is)
    (case k_law_all_told => k_is)
    (case a_law_deed_told => k_is)
    (case l_law_deed_told => k_is)
    (case c_law_deed_told => k_is)
    (case k_law_deed_told => k_is)
    (case a_law_undo_told => k_is)
    (case l_law_undo_told => k_is)
    (case c_law_undo_told => k_is)
    (case k_law_undo_told => k_is)
    (case a_law_counter => k_is)
    (case l_law_counter => k_is)
    (case c_law_counter => k_is)
    (case k_law_counter => k_is)
    (case a_law => k_is)
    (case l_law => k_is)
    (case c_law => k_is)
    (case k_law => k_is)
    (case n_CountError => k_is)
    (case q_CountError => k_exc)
    (case n_NotCalm => k_is)
    (case q_NotCalm => k_exc)
    (case n_NoPlace => k_is)
    (case q_NoPlace => k_exc)
    (case n_NothingDone => k_is)
    (case q_NothingDone => k_exc)
    (case n_NoText => k_is)
    (case q_NoText => k_exc)
    (case x1_NotCalm => kernel_rfl!)
    (case x2_NotCalm => k_is)
    (case x3_NotCalm => k_is)
    (case x4_NotCalm => k_is)
    (case x1_NoPlace => kernel_rfl!)
    (case x2_NoPlace => k_is)
    (case x3_NoPlace => k_is)
    (case x4_NoPlace => k_is)
    (case x1_NothingDone => kernel_rfl!)
    (case x2_NothingDone => k_is)
    (case x3_NothingDone => k_is)
    (case x4_NothingDone => k_is)
    (case kt_NotCalm_CountError => kernel_rfl!)
    (case es_NotCalm_CountError => kernel_rfl!)
    (case kt_NotCalm_NotCalm => kernel_rfl!)
    (case es_NotCalm_NotCalm => kernel_rfl!)
    (case kt_NotCalm_NoPlace => kernel_rfl!)
    (case kt_NotCalm_NothingDone => kernel_rfl!)
    (case kt_NotCalm_NoText => kernel_rfl!)
    (case kt_NotCalm_ValueError => kernel_rfl!)
    (case kt_NoPlace_CountError => kernel_rfl!)
    (case es_NoPlace_CountError => kernel_rfl!)
    (case kt_NoPlace_NotCalm => kernel_rfl!)
    (case kt_NoPlace_NoPlace => kernel_rfl!)
    (case es_NoPlace_NoPlace => kernel_rfl!)
    (case kt_NoPlace_NothingDone => kernel_rfl!)
    (case kt_NoPlace_NoText => kernel_rfl!)
    (case kt_NoPlace_ValueError => kernel_rfl!)
    (case kt_NothingDone_CountError => kernel_rfl!)
    (case es_NothingDone_CountError => kernel_rfl!)
    (case kt_NothingDone_NotCalm => kernel_rfl!)
    (case kt_NothingDone_NoPlace => kernel_rfl!)
    (case kt_NothingDone_NothingDone => kernel_rfl!)
    (case es_NothingDone_NothingDone => kernel_rfl!)
    (case kt_NothingDone_NoText => kernel_rfl!)
    (case kt_NothingDone_ValueError => kernel_rfl!)
    (case z_isinstance => k_is)
    (case z_int => k_is)
    (case z_bool => k_is)
    (case z_reversed => k_is)
    (case z_len => k_is)
    (case z_list => k_is)
    (case z_enumerate => k_is)
    (case z_range => k_is)
    (case z_abs => k_is)
    (case z_ValueError => k_is)
    (case g_LAST_PLACE => k_is)
    (case g_SIGNS => k_is)
