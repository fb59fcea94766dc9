import PyProof.Rows.All
import Wide.All
import OpenK.AllK
import Wide.FinOn
import Lean
import PyProof.EqAt
import PyProof.EqKinds
import PyProof.TupleCall
import PySem.Challenge.RW_calmcount_k07_written_and_read
set_option Elab.async false
set_option linter.all false
set_option maxRecDepth 100000
namespace L2
open PySem PySem.Spec PyProof.Rows

abbrev Key := Sum Int Str
def keyIs : Key → Value → Bool
  | .inl k, v => Value.isInt k v
  | .inr x, v => Value.isStrOf x v
def keyH (w : World) : Key → Int
  | .inl k => hashInt k
  | .inr x => hashStr w x
theorem keyIs_shape : ∀ {k : Key} {v : Value}, keyIs k v = true → (∃ i t, k = Sum.inl i ∧ v = Value.int i t) ∨ (∃ x t, k = Sum.inr x ∧ v = Value.str x t)
  | .inl i, v, h => by
    obtain ⟨t, e⟩ := Value.isInt_shape (k := i) (v := v) h
    exact .inl ⟨i, t, rfl, e⟩
  | .inr x, v, h => by
    obtain ⟨t, e⟩ := Value.isStrOf_shape (x := x) (v := v) h
    exact .inr ⟨x, t, rfl, e⟩
theorem key_ll (a b : Int) : decide ((Sum.inl a : Key) = Sum.inl b) = (a == b) := by
  by_cases e : a = b
  · subst e; simp
  · have h : ¬ (Sum.inl a : Key) = Sum.inl b := fun q => e (Sum.inl.inj q)
    rw [decide_eq_false h]
    exact (beq_eq_false_iff_ne.mpr e).symm
theorem key_rr (a b : Str) : decide ((Sum.inr a : Key) = Sum.inr b) = decide (a = b) := by
  by_cases e : a = b
  · subst e; simp
  · have h : ¬ (Sum.inr a : Key) = Sum.inr b := fun q => e (Sum.inr.inj q)
    rw [decide_eq_false h, decide_eq_false e]
theorem key_lr (a : Int) (b : Str) : decide ((Sum.inl a : Key) = Sum.inr b) = false := decide_eq_false (fun q => nomatch q)
theorem key_rl (a : Str) (b : Int) : decide ((Sum.inr a : Key) = Sum.inl b) = false := decide_eq_false (fun q => nomatch q)

def mixKind (prog : Program) (w : World) : PySem.KeyKind prog w Key where
  is := keyIs
  hash := keyH w
  inj := fun v a b ha hb => by
    rcases keyIs_shape ha with ⟨i, t, rfl, rfl⟩ | ⟨x, t, rfl, rfl⟩
    · rcases keyIs_shape hb with ⟨j, u, rfl, e⟩ | ⟨y, u, rfl, e⟩
      · injection e with e1 _; rw [e1]
      · exact nomatch e
    · rcases keyIs_shape hb with ⟨j, u, rfl, e⟩ | ⟨y, u, rfl, e⟩
      · exact nomatch e
      · injection e with e1 _; rw [e1]
  byValue := fun k v h => by
    rcases keyIs_shape h with ⟨i, t, rfl, rfl⟩ | ⟨x, t, rfl, rfl⟩ <;> rfl
  pyHash := fun hv h => by
    rcases keyIs_shape hv with ⟨i, t, rfl, rfl⟩ | ⟨x, t, rfl, rfl⟩
    · exact wpAny_pyHash_int h
    · exact wpAny_pyHash_str h
  eqBool := fun hu hv h => by
    rcases keyIs_shape hu with ⟨i, t, rfl, rfl⟩ | ⟨x, t, rfl, rfl⟩
    · rcases keyIs_shape hv with ⟨j, u, rfl, rfl⟩ | ⟨y, u, rfl, rfl⟩
      · rw [key_ll] at h; exact wpAny_eqBool_int h
      · rw [key_lr] at h; exact SeqAt.EqAt.int_str i t y u _ _ _ _ h
    · rcases keyIs_shape hv with ⟨j, u, rfl, rfl⟩ | ⟨y, u, rfl, rfl⟩
      · rw [key_rl] at h; exact SeqAt.EqAt.str_int x t j u _ _ _ _ h
      · rw [key_rr] at h; exact wpAny_eqBool_str h
  «strs» := fun k x t v h => by
    rcases keyIs_shape h with ⟨i, u, rfl, e⟩ | ⟨y, u, rfl, e⟩
    · exact nomatch e
    · injection e with e1 _
      subst e1
      cases v <;> rfl

end L2

namespace L2
open PySem PySem.Spec PyProof.Rows

inductive V where
  | non | bl (b : Bool) | int (i : Int) | str (x : Str) | byt (b : Array UInt8) | flt (b : UInt64) | ref (a : Addr) | ty (n : String)
  deriving DecidableEq

def RelV : V → Value → Prop
  | .non, u => u = Value.none
  | .bl b, u => u = Value.bool b
  | .int i, u => ∃ t, u = Value.int i t
  | .str x, u => ∃ t, u = Value.str x t
  | .byt b, u => ∃ t, u = Value.bytes b t
  | .flt b, u => ∃ t, u = Value.float b t
  | .ref a, u => u = Value.ref a
  | .ty n, u => u = Value.type n

abbrev Vals : List V → List Value → Prop := Paired RelV
theorem Vals.length {xs : List V} {us : List Value} (r : Vals xs us) : xs.length = us.length := Paired.length r
theorem Vals.get : ∀ {xs : List V} {us : List Value} {i : Nat} {x : V}, Vals xs us → xs[i]? = some x → ∃ u, us[i]? = some u ∧ RelV x u
  | _, _, _, _, .nil, e => by simp at e
  | _, _, 0, _, .cons r _, e => by simp at e; subst e; exact ⟨_, rfl, r⟩
  | _, _, i + 1, x, .cons _ t, e => by
    obtain ⟨u, h1, h2⟩ := Vals.get (i := i) (x := x) t (by simpa using e)
    exact ⟨u, by simpa using h1, h2⟩
theorem Vals.set {x : V} {u : Value} (r : RelV x u) : ∀ {xs : List V} {us : List Value} (i : Nat), Vals xs us → Vals (xs.set i x) (us.set i u)
  | _, _, _, .nil => .nil
  | _, _, 0, .cons _ t => .cons r t
  | _, _, i + 1, .cons q t => .cons q (Vals.set r i t)
theorem Vals.append : ∀ {xs ys : List V} {us ws : List Value}, Vals xs us → Vals ys ws → Vals (xs ++ ys) (us ++ ws)
  | _, _, _, _, .nil, s => s
  | _, _, _, _, .cons r t, s => .cons r (Vals.append t s)
theorem Vals.take : ∀ {xs : List V} {us : List Value} (n : Nat), Vals xs us → Vals (xs.take n) (us.take n)
  | _, _, 0, _ => .nil
  | _, _, _ + 1, .nil => .nil
  | _, _, n + 1, .cons r t => .cons r (Vals.take n t)
theorem Vals.drop : ∀ {xs : List V} {us : List Value} (n : Nat), Vals xs us → Vals (xs.drop n) (us.drop n)
  | _, _, 0, r => r
  | _, _, _ + 1, .nil => .nil
  | _, _, n + 1, .cons _ t => Vals.drop n t
def RelO : Option V → Option Value → Prop
  | some v, some u => RelV v u
  | none, none => True
  | _, _ => False
def KV {κ : Type} : List (κ × V) → List (κ × Value) → Prop := Paired fun (p : κ × V) (q : κ × Value) => p.1 = q.1 ∧ RelV p.2 q.2

def kV : Key → V
  | .inl i => .int i
  | .inr x => .str x

inductive HO where
  /-- a list -/
  | lst (xs : List V)
  /-- a tuple (never changes) -/
  | tup (xs : List V)
  /-- a dict whose keys are ints and texts; one whose keys are tuples of ints and texts (the empty one is both) -/
  | dK (kvs : List (Key × V)) | dT (kvs : List (List Key × V))
  /-- a set of ints: its members, its size -/
  | set (S : Int → Bool) (n : Nat)
  /-- an instance of the class at C, its dict at dx, its attributes -/
  | ins (C dx : Addr) (fs : List (Str × V))
  /-- the dict of the instance at x -/
  | own (x : Addr)
  /-- the dict of an exception -/
  | xd (fs : List (Str × V))
  /-- a bound method, f of x -/
  | met (f x : Addr)
  /-- a range object lo, lo + 1, .. below hi -/
  | rng (lo hi : Int)
  /-- a thing that is known to the object (the script; a dict while a loop walks it): read, never written while it is so -/
  | frz (o : Obj) (u : HO)
  /-- a code object's table -/
  | tbl (ps : Array Value)
  /-- any other thing, by what is true of its one object (a def of one's own: SetO a S n := HO.ext fun h => ..) -/
  | ext (φ : Heap → Prop)

abbrev Hp := Addr → Option HO
def upd (H : Hp) (a : Addr) (o : HO) : Hp := fun b => if b = a then some o else H b
theorem upd_same {H : Hp} {a : Addr} {o : HO} : upd H a o a = some o := by unfold upd; rw [if_pos rfl]
theorem upd_ne {H : Hp} {a b : Addr} {o : HO} (h : b ≠ a) : upd H a o b = H b := by unfold upd; rw [if_neg h]
theorem ne_of_none {H : Hp} {a b : Addr} {o : HO} (h : H a = some o) (h' : H b = none) : a ≠ b := by
  intro e; subst e; rw [h] at h'; cases h'

section
variable (P : Program) (w : World)
def ObjOk (H : Hp) (h : Heap) (a : Addr) : HO → Prop
  | .lst xs => xs.length ≤ sizeLine ∧ ∃ (its : List Value) (n : Nat), Vals xs its ∧ h.get? a = some { cls := .type "list", data := .seq its.toArray n }
  | .tup xs => xs.length ≤ sizeLine ∧ ∃ its : List Value, Vals xs its ∧ IsTup h a its.toArray
  | .dK kvs => kvs.length ≤ sizeLine ∧ (a == sysModules) = false ∧ ∃ vs, KV kvs vs ∧ h.DictOf (mixKind P w) a vs
  | .dT kvs => kvs.length ≤ sizeLine ∧ (a == sysModules) = false ∧ ∃ xs : List (List Key × Addr × Value),
      Paired (fun (p : List Key × V) (q : List Key × Addr × Value) => p.1 = q.1 ∧ H q.2.1 = some (.tup (p.1.map kV)) ∧ RelV p.2 q.2.2) kvs xs ∧
      ∃ o es ep, h.get? a = some o ∧ o.ExactDict ∧ o.data = .dict es ep ∧ es.toList = xs.map (entryOfKey (tupleKind (mixKind P w))) ∧ (xs.map (·.1)).Nodup
  | .set S n => h.SetOf (intKind P w) a S n
  | .ins C dx fs => H dx = some (.own a) ∧ fs.length ≤ 1000 ∧ dx ≠ a ∧ h.get? a = some (PySem.W.instObj C dx) ∧
      ∃ mA, h.Ns1 dx mA ∧ (∀ f, RelO (fs.lookup f) (mA f)) ∧ PySem.Within mA (fs.map (·.1))
  | .own _ => ∃ o, h.get? a = some o
  | .xd fs => ∃ mA, h.Ns1 a mA ∧ ∀ f, RelO (fs.lookup f) (mA f)
  | .rng lo hi => ∃ t u v, h.get? a = some { cls := .type "range", data := .fields #[.int lo t, .int hi u, .int 1 v] }
  | .frz o u => h.get? a = some o ∧ ObjOk H h a u
  | .tbl ps => h.get? a = some { cls := .none, data := .fields ps }
  | .met f x => h.get? a = some (PySem.W.methodObj (.ref f) (.ref x))
  | .ext φ => φ h ∧ (∃ o, h.get? a = some o) ∧ ∀ h1 h2 : Heap, φ h1 → (∀ o, h1.get? a = some o → h2.get? a = some o) → φ h2
def HOk (H : Hp) (h : Heap) : Prop := ∀ a o, H a = some o → ObjOk P w H h a o
end

section
variable {P : Program} {w : World} {H H' : Hp} {h h' : Heap} {a : Addr} {o : HO}
theorem ObjOk.lt (x : ObjOk P w H h a o) : a < h.objs.size := by
  cases o with
  | lst xs => obtain ⟨_, _, _, _, e⟩ := x; exact Heap.lt_size e
  | tup xs => obtain ⟨_, _, _, p⟩ := x; exact p.lt
  | dK kvs => obtain ⟨_, _, _, _, o, _, _, e, _⟩ := x; exact Heap.lt_size e
  | dT kvs => obtain ⟨_, _, _, _, o, _, _, e, _⟩ := x; exact Heap.lt_size e
  | set S n => obtain ⟨o, _, _, _, e, _⟩ := x; exact Heap.lt_size e
  | ins C dx fs => obtain ⟨_, _, _, e, _⟩ := x; exact Heap.lt_size e
  | own y => obtain ⟨_, e⟩ := x; exact Heap.lt_size e
  | xd fs => obtain ⟨_, ⟨_, _, _, e, _⟩, _⟩ := x; exact Heap.lt_size e
  | rng lo hi => obtain ⟨_, _, _, e⟩ := x; exact Heap.lt_size e
  | frz ob u => obtain ⟨e, _⟩ := x; exact Heap.lt_size e
  | tbl ps => exact Heap.lt_size (show h.get? a = some _ from x)
  | met f y => exact Heap.lt_size (show h.get? a = some _ from x)
  | ext φ => obtain ⟨_, ⟨_, e⟩, _⟩ := x; exact Heap.lt_size e
theorem Paired.mapP {α β : Type} {F G : α → β → Prop} : ∀ {l₁ : List α} {l₂ : List β}, Paired F l₁ l₂ → (∀ a b, F a b → G a b) → Paired G l₁ l₂
  | _, _, .nil, _ => .nil
  | _, _, .cons r t, f => .cons (f _ _ r) (Paired.mapP t f)
theorem ObjOk.stay (x : ObjOk P w H h a o) (k : ∀ b u, (b = a ∨ H b = some (.own a)) → h.get? b = some u → h'.get? b = some u)
    (ho : ∀ b, H b = some (.own a) → H' b = some (.own a)) (ht : ∀ b xs, H b = some (.tup xs) → H' b = some (.tup xs)) : ObjOk P w H' h' a o := by
  induction o with
  | lst xs => obtain ⟨z, its, n, r, e⟩ := x; exact ⟨z, its, n, r, k _ _ (.inl rfl) e⟩
  | tup xs => obtain ⟨z, its, r, ob, e, c⟩ := x; exact ⟨z, its, r, ob, k _ _ (.inl rfl) e, c⟩
  | dK kvs => obtain ⟨z, y, vs, r, ob, es, ep, e, c⟩ := x; exact ⟨z, y, vs, r, ob, es, ep, k _ _ (.inl rfl) e, c⟩
  | dT kvs =>
    obtain ⟨z, y, xs, r, ob, es, ep, e, c⟩ := x
    exact ⟨z, y, xs, Paired.mapP r fun p q z => ⟨z.1, ht _ _ z.2.1, z.2.2⟩, ob, es, ep, k _ _ (.inl rfl) e, c⟩
  | set S n => obtain ⟨ob, es, ep, t, e, c⟩ := x; exact ⟨ob, es, ep, t, k _ _ (.inl rfl) e, c⟩
  | ins C dx fs =>
    obtain ⟨d, z, ne, e, mA, ⟨od, es, ep, e2, c⟩, r⟩ := x
    exact ⟨ho _ d, z, ne, k _ _ (.inl rfl) e, mA, ⟨od, es, ep, k _ _ (.inr d) e2, c⟩, r⟩
  | own y => obtain ⟨ob, e⟩ := x; exact ⟨ob, k _ _ (.inl rfl) e⟩
  | xd fs => obtain ⟨mA, ⟨od, es, ep, e, c⟩, r⟩ := x; exact ⟨mA, ⟨od, es, ep, k _ _ (.inl rfl) e, c⟩, r⟩
  | rng lo hi => obtain ⟨t, u, v, e⟩ := x; exact ⟨t, u, v, k _ _ (.inl rfl) e⟩
  | frz ob u ih => obtain ⟨e, q⟩ := x; exact ⟨k _ _ (.inl rfl) e, ih q⟩
  | tbl ps =>
    have e : h.get? a = some { cls := .none, data := .fields ps } := x
    show h'.get? a = some { cls := .none, data := .fields ps }
    exact k a _ (.inl rfl) e
  | met f y =>
    have e : h.get? a = some (PySem.W.methodObj (.ref f) (.ref y)) := x
    show h'.get? a = some (PySem.W.methodObj (.ref f) (.ref y))
    exact k a _ (.inl rfl) e
  | ext φ => obtain ⟨p, ⟨o, e⟩, st⟩ := x; exact ⟨st _ _ p fun o q => k _ _ (.inl rfl) q, ⟨o, k _ _ (.inl rfl) e⟩, st⟩
theorem HOk.lt (x : HOk P w H h) (e : H a = some o) : a < h.objs.size := (x a o e).lt
theorem HOk.fresh (x : HOk P w H h) (e : h.objs.size ≤ a) : H a = none := by
  cases q : H a with
  | none => rfl
  | some u => exact absurd (Nat.lt_of_lt_of_le (x.lt q) e) (Nat.lt_irrefl _)
theorem HOk.kept (x : HOk P w H h) (k : ∀ b u, h.get? b = some u → h'.get? b = some u) : HOk P w H h' := fun a o e =>
  (x a o e).stay (fun b u _ q => k b u q) (fun _ q => q) fun _ _ q => q
theorem HOk.laid (x : HOk P w H h) (k : ∀ b u, h.get? b = some u → h'.get? b = some u) (hp : h.objs.size ≤ a) (new : ObjOk P w (upd H a o) h' a o) : HOk P w (upd H a o) h' := fun b u e => by
  have hn := x.fresh hp
  by_cases hb : b = a
  · subst hb; rw [upd_same] at e; cases e; exact new
  · rw [upd_ne hb] at e
    exact (x b u e).stay (fun c v _ q => k c v q) (fun c q => by rw [upd_ne (ne_of_none q hn)]; exact q) fun c xs q => by rw [upd_ne (ne_of_none q hn)]; exact q
end

def Rd (H : Hp) (a : Addr) (u : HO) : Prop := H a = some u ∨ ∃ o, H a = some (.frz o u)
theorem Rd.of {H : Hp} {a : Addr} {u : HO} (h : H a = some u) : Rd H a u := .inl h
theorem Rd.ok {P : Program} {w : World} {H : Hp} {h : Heap} {a : Addr} {u : HO} (r : Rd H a u) (x : HOk P w H h) : ObjOk P w H h a u := by
  rcases r with r | ⟨o, r⟩
  · exact x a u r
  · obtain ⟨_, q⟩ := x a _ r
    exact q
def Mut : Option HO → Prop
  | some (.lst _) => True
  | some (.dK _) => True
  | some (.dT _) => True
  | some (.set _ _) => True
  | some (.ins _ _ _) => True
  | some (.ext _) => True
  | _ => False
section
variable {P : Program} {w : World} {H : Hp} {h h' : Heap} {x e : Addr} {o' : HO}
theorem HOk.write (ok : HOk P w H h) (mu : Mut (H x)) (he : e = x ∨ H e = some (.own x)) (k : ∀ b u, b ≠ e → h.get? b = some u → h'.get? b = some u) (heo : ∃ u, h'.get? e = some u)
    (new : ObjOk P w (upd H x o') h' x o') : HOk P w (upd H x o') h' := fun b u q => by
  have nown : ∀ c y, H c = some (.own y) → c ≠ x := fun c y r z => by subst z; rw [r] at mu; exact mu
  have ntup : ∀ c xs, H c = some (.tup xs) → c ≠ x := fun c xs r z => by subst z; rw [r] at mu; exact mu
  by_cases hb : b = x
  · subst hb; rw [upd_same] at q; cases q; exact new
  · rw [upd_ne hb] at q
    by_cases hbe : b = e
    · have q' : H b = some (.own x) := by
        rcases he with z | z
        · exact absurd (hbe.trans z) hb
        · rw [hbe]; exact z
      rw [q] at q'; cases q'
      obtain ⟨v, hv⟩ := heo
      exact ⟨v, by rw [hbe]; exact hv⟩
    · refine (ok b u q).stay (fun c v hc r => k c v ?_ r) (fun c r => by rw [upd_ne (nown c b r)]; exact r) fun c xs r => by rw [upd_ne (ntup c xs r)]; exact r
      rcases hc with rfl | hc
      · exact hbe
      · rintro rfl
        rcases he with z | z
        · exact nown c b hc z
        · rw [hc] at z; cases z; exact hb rfl
end

structure Un (fs ex : List Addr) (H H' : Hp) (h h' : Heap) : Prop where
  keep : ∀ b o, h.get? b = some o → H b = none → b ∉ fs → b ∉ ex → h'.get? b = some o
  slot : ∀ b o, h.get? b = some o → H b = none → b ∈ fs → b ∉ ex → ∃ sl, h'.get? b = some { o with slots := sl }
  free : ∀ b o, h.get? b = some o → H b = none → b ∉ ex → H' b = none
  there : ∀ b o, h.get? b = some o → b ∉ ex → ∃ o', h'.get? b = some o'
  tups : ∀ b xs, H b = some (.tup xs) → H' b = some (.tup xs)
  frzs : ∀ b o u, H b = some (.frz o u) → H' b = some (.frz o u)
  tbls : ∀ b ps, H b = some (.tbl ps) → ∃ more, H' b = some (.tbl (ps ++ more))
section
variable {fs fs' ex ex' : List Addr} {H H1 H2 : Hp} {h h1 h2 h' : Heap} {a x e : Addr} {o : HO}
theorem Un.any (u : Un fs ex H H1 h h1) {b : Addr} {ob : Obj} (q : h.get? b = some ob) (n : H b = none) (hx : b ∉ ex) : ∃ sl, h1.get? b = some { ob with slots := sl } := by
  by_cases hb : b ∈ fs
  · exact u.slot b ob q n hb hx
  · exact ⟨ob.slots, u.keep b ob q n hb hx⟩
theorem Un.trans (a : Un fs ex H H1 h h1) (b : Un fs ex H1 H2 h1 h2) : Un fs ex H H2 h h2 where
  keep := fun c ob q n hc hx => b.keep c ob (a.keep c ob q n hc hx) (a.free c ob q n hx) hc hx
  slot := fun c ob q n hc hx => by
    obtain ⟨sl, e1⟩ := a.slot c ob q n hc hx
    obtain ⟨sl', e2⟩ := b.slot c _ e1 (a.free c ob q n hx) hc hx
    exact ⟨sl', e2⟩
  free := fun c ob q n hx => by
    obtain ⟨o', e1⟩ := a.there c ob q hx
    exact b.free c o' e1 (a.free c ob q n hx) hx
  there := fun c ob q hx => by
    obtain ⟨o', e1⟩ := a.there c ob q hx
    exact b.there c o' e1 hx
  tups := fun c xs q => b.tups c xs (a.tups c xs q)
  frzs := fun c ob xs q => b.frzs c ob xs (a.frzs c ob xs q)
  tbls := fun c ps q => by
    obtain ⟨m1, e1⟩ := a.tbls c ps q
    obtain ⟨m2, e2⟩ := b.tbls c _ e1
    exact ⟨m1 ++ m2, by rw [e2, Array.append_assoc]⟩
theorem Un.kept (k : ∀ b u, h.get? b = some u → h'.get? b = some u) : Un fs ex H H h h' :=
  ⟨fun b ob q _ _ _ => k b ob q, fun b ob q _ _ _ => ⟨ob.slots, k b ob q⟩, fun _ _ _ n _ => n, fun b ob q _ => ⟨ob, k b ob q⟩, fun _ _ q => q, fun _ _ _ q => q, fun _ ps q => ⟨#[], by rw [q]; simp⟩⟩
theorem Un.refl : Un fs ex H H h h := Un.kept fun _ _ q => q
theorem Un.laid (k : ∀ b u, h.get? b = some u → h'.get? b = some u) (hp : h.objs.size ≤ a) (hn : H a = none) : Un fs ex H (upd H a o) h h' where
  keep := fun b u q _ _ _ => k b u q
  slot := fun b u q _ _ _ => ⟨u.slots, k b u q⟩
  free := fun b u q n _ => by rw [upd_ne (Nat.ne_of_lt (Nat.lt_of_lt_of_le (Heap.lt_size q) hp))]; exact n
  there := fun b u q _ => ⟨u, k b u q⟩
  tups := fun b xs q => by rw [upd_ne (ne_of_none q hn)]; exact q
  frzs := fun b u xs q => by rw [upd_ne (ne_of_none q hn)]; exact q
  tbls := fun b ps q => ⟨#[], by rw [upd_ne (ne_of_none q hn), q]; simp⟩
theorem Un.write (mu : Mut (H x)) (he : e = x ∨ H e = some (.own x)) (k : ∀ b u, b ≠ e → h.get? b = some u → h'.get? b = some u) (heo : ∃ u, h'.get? e = some u) : Un fs ex H (upd H x o) h h' := by
  have hx : ∀ b, H b = none → b ≠ x := fun b n z => by subst z; rw [n] at mu; exact mu
  have hb : ∀ b, H b = none → b ≠ e := fun b n z => by
    subst z
    rcases he with r | r
    · exact hx b n r
    · rw [n] at r; cases r
  have hm : ∀ b u, H b = some u → ¬ Mut (some u) → b ≠ x := fun b u q nm z => by subst z; rw [q] at mu; exact nm mu
  refine ⟨fun b u q n _ _ => k b u (hb b n) q, fun b u q n _ _ => ⟨u.slots, k b u (hb b n) q⟩, fun b u q n _ => by rw [upd_ne (hx b n)]; exact n, fun b u q _ => ?_,
    fun b xs q => by rw [upd_ne (hm b _ q fun z => z)]; exact q, fun b u xs q => by rw [upd_ne (hm b _ q fun z => z)]; exact q, fun b ps q => ⟨#[], by rw [upd_ne (hm b _ q fun z => z), q]; simp⟩⟩
  by_cases hbe : b = e
  · subst hbe; exact heo
  · exact ⟨u, k b u hbe q⟩
theorem Un.mono (u : Un fs ex H H1 h h1) (hs : ∀ b ∈ fs, b ∈ fs') (hx : ∀ b ∈ ex, b ∈ ex') : Un fs' ex' H H1 h h1 :=
  ⟨fun b ob q n hb he => u.keep b ob q n (fun z => hb (hs b z)) fun z => he (hx b z), fun _ _ q n _ he => u.any q n fun z => he (hx _ z), fun b ob q n he => u.free b ob q n fun z => he (hx b z), fun b ob q he => u.there b ob q fun z => he (hx b z), u.tups, u.frzs, u.tbls⟩
end

def trk (h : Heap) (H : Hp) : List Addr := (List.range h.objs.size).filter fun a => (H a).isSome
def hidT (h : Heap) (H : Hp) : Heap := PySem.W.hideAll h (trk h H)
theorem hidT_size (h : Heap) (H : Hp) : (hidT h H).objs.size = h.objs.size := PySem.W.hideAll_size _ _
theorem hidT_get {h : Heap} {H : Hp} {b : Addr} {o : Obj} (e : h.get? b = some o) (n : H b = none) : (hidT h H).get? b = some o :=
  PySem.W.hideAll_get _ e fun hm => by
    have q : (H b).isSome = true := (List.mem_filter.mp hm).2
    rw [n] at q; simp at q
theorem of_hidT {h : Heap} {H : Hp} {b : Addr} {o : Obj} (e : (hidT h H).get? b = some o) : h.get? b = some o ∧ H b = none := by
  have e' : h.get? b = some o := PySem.W.of_hideAll (trk h H) e
  refine ⟨e', ?_⟩
  cases q : H b with
  | none => rfl
  | some x =>
    have hm : b ∈ trk h H := List.mem_filter.mpr ⟨List.mem_range.mpr (Heap.lt_size e'), by simp [q]⟩
    have z : (hidT h H).get? b = none := PySem.W.hideAll_none (trk h H) hm
    rw [z] at e; cases e

def allNews (g h : Heap) (L : Addr) : List (Addr × Obj) := (List.range h.objs.size).filterMap fun a => if a = L ∨ (g.get? a).isSome = true then none else (h.get? a).map fun o => (a, o)
def rest (g h : Heap) (L d : Addr) : List (Addr × Obj) := (allNews g h L).filter fun p => decide (p.1 ≠ d)
end L2

namespace L2
open PySem PySem.Spec PyProof.Rows

structure Mod (K : PySem.W.Frag) (mg : Str → Option Value) (base : Heap) : Prop where
  kin : K.In base
  glob : base.Ns mainGlobals mg
  blt : ∃ mb, base.Ns builtinsNs mb ∧ ∀ x : Str, x ≠ "__name__" → mb x = bootBuiltins x
  nolimit : base.NoLimit

structure Cx where
  prog : Program
  w : World
  K : PySem.W.Frag
  mg : Str → Option Value
  base : Heap
  A : Around
  N : List Str
  s₀ : Shared
  H₀ : Hp
  env : Env
  outer : List Env
  stack : List Env
  ex : List Addr
  fn : Str → Bool
  calm : Bool
  pn : List (Addr × Obj)
  xe : Value → Shared → Prop
def frs (l : List Env) : List Addr := l.filterMap (·.frame)
abbrev Cx.fs (X : Cx) : List Addr := frs X.outer

def Vis (sc : Scope) (x : Str) : Prop := sc.names.lookup x = some .local ∨ sc.names.lookup x = some .cell ∨ sc.names.lookup x = some .free
def Loc (sc : Scope) (x : Str) : Prop := sc.names.lookup x = some .local ∨ sc.names.lookup x = some .cell
def Look (env : Env) (h : Heap) (m : Str → Option Value) (x : Str) (u : Value) : Prop :=
  (env.kindOf x = some .local ∧ m x = some u) ∨ ((env.kindOf x = some .cell ∨ env.kindOf x = some .free) ∧ ∃ c, env.cells.lookup x = some c ∧ h.IsCell c (some u))

structure Cx.Ok (X : Cx) : Prop where
  mod : Mod X.K X.mg X.base
  kind : X.env.scope.kind = .function
  glob : X.env.globals = mainGlobals
  blt : X.env.builtins = builtinsNs
  above : X.s₀.heap.objs.size ≤ X.env.locals
  inj : ∀ x y c, X.env.cells.lookup x = some c → X.env.cells.lookup y = some c → x = y
  has : ∀ x, (X.env.kindOf x = some .cell ∨ X.env.kindOf x = some .free) → ∃ c, X.env.cells.lookup x = some c
  cab : ∀ x c, X.fn x = true → X.env.cells.lookup x = some c → X.s₀.heap.objs.size ≤ c
  hd : X.calm = true → X.A.handled = none
  frames : X.A.frames = some X.stack
  stk : X.stack = X.outer ∨ (X.stack = X.env :: X.outer ∧ X.env.frame = some X.env.locals)
  exf : ∀ b ∈ X.ex, b ≠ X.env.locals ∧ ∀ x c, X.env.cells.lookup x = some c → c ≠ b
  bs : ∀ b o, X.base.get? b = some o → X.s₀.heap.get? b = some o ∧ X.H₀ b = none
  bsz : X.base.objs.size ≤ X.s₀.heap.objs.size
  noex : ∀ b o, X.base.get? b = some o → b ∉ X.ex
  exfs : ∀ b ∈ X.ex, b ∉ X.fs
  funs : X.s₀.heap.FunFrames X.base X.outer
  frf : ∀ b ∈ X.fs, X.H₀ b = none

structure Inv (X : Cx) (pins : List (Addr × Obj)) (σ : List (Option V)) (H : Hp) (s : Shared) : Prop where
  ok : X.Ok
  os : s.os = X.s₀.os
  bare : AllBare s.gens
  base : Un X.fs X.ex X.H₀ H X.s₀.heap s.heap
  loc : ∃ m, s.heap.Ns X.env.locals m ∧ ∀ (i : Nat) (x : Str) (v : V), X.N[i]? = some x → σ[i]? = some (some v) → Vis X.env.scope x → ∃ u, RelV v u ∧ Look X.env s.heap m x u
  cell : ∀ x c, X.env.cells.lookup x = some c → ∃ v, s.heap.IsCell c v
  free : H X.env.locals = none
  freeC : ∀ x c, X.env.cells.lookup x = some c → H c = none
  pin : ∀ p ∈ X.pn ++ pins, s.heap.get? p.1 = some p.2 ∧ H p.1 = none ∧ p.1 ≠ X.env.locals ∧ p.1 ∉ X.fs ∧ ∀ v, p.2.data ≠ .cell v
  hok : HOk X.prog X.w H s.heap
  len : σ.length = X.N.length

section
variable {X : Cx} {pins : List (Addr × Obj)} {σ : List (Option V)} {H H' : Hp} {s : Shared} {h' : Heap}

theorem Cx.Ok.nofr (ok : X.Ok) {b : Addr} {o : Obj} (e : X.base.get? b = some o) : b ∉ X.fs := fun hb => by
  have := (ok.funs.mem hb).1
  rw [e] at this; cases this
theorem Inv.bs (I : Inv X pins σ H s) : ∀ b o, X.base.get? b = some o → s.heap.get? b = some o ∧ H b = none := fun b o e =>
  ⟨I.base.keep b o (I.ok.bs b o e).1 (I.ok.bs b o e).2 (I.ok.nofr e) (I.ok.noex b o e), I.base.free b o (I.ok.bs b o e).1 (I.ok.bs b o e).2 (I.ok.noex b o e)⟩
theorem Inv.bk (I : Inv X pins σ H s) : ∀ b o, X.base.get? b = some o → s.heap.get? b = some o := fun b o e => (I.bs b o e).1
theorem Inv.mod (I : Inv X pins σ H s) : Mod X.K X.mg X.base := I.ok.mod
theorem Inv.kIn (I : Inv X pins σ H s) : X.K.In s.heap := I.ok.mod.kin.keeps I.bk
theorem Inv.nolimit (I : Inv X pins σ H s) : s.heap.NoLimit := I.ok.mod.nolimit.keeps I.bk
theorem Inv.lt (I : Inv X pins σ H s) : X.env.locals < s.heap.objs.size := let ⟨_, hn, _⟩ := I.loc; hn.lt
theorem Inv.sz (I : Inv X pins σ H s) : X.s₀.heap.objs.size ≤ s.heap.objs.size := Nat.le_trans I.ok.above (Nat.le_of_lt I.lt)
theorem Inv.nofs (I : Inv X pins σ H s) {a : Addr} (h : s.heap.objs.size ≤ a) : a ∉ X.fs := fun hb => by
  obtain ⟨_, o, ho, _⟩ := I.ok.funs.mem hb
  exact absurd (Nat.lt_of_lt_of_le (Heap.lt_size ho) (Nat.le_trans I.sz h)) (Nat.lt_irrefl _)
theorem Inv.cne (I : Inv X pins σ H s) : ∀ x c, X.env.cells.lookup x = some c → c ≠ X.env.locals := fun x c e z => by
  obtain ⟨v, o, ho, hd⟩ := I.cell x c e
  obtain ⟨m, ⟨o', es, ep, ho', hd', _⟩, _⟩ := I.loc
  rw [z, ho'] at ho; cases ho; rw [hd'] at hd; cases hd
theorem Inv.funs (I : Inv X pins σ H s) : s.heap.FunFrames X.base X.outer := by
  have all : ∀ (l : List Env), (∀ b ∈ frs l, b ∈ X.fs) → X.s₀.heap.FunFrames X.base l → s.heap.FunFrames X.base l := by
    intro l
    induction l with
    | nil => intro _ _; trivial
    | cons env r ih =>
      intro hs hl
      obtain ⟨hk, ⟨L, o, hf, hn, ho, hd⟩, hr⟩ := hl
      have hL : L ∈ X.fs := hs L (by unfold frs; rw [List.filterMap_cons, hf]; exact List.mem_cons_self)
      obtain ⟨sl, e⟩ := I.base.slot L o ho (I.ok.frf L hL) hL fun z => I.ok.exfs L z hL
      exact ⟨hk, ⟨L, _, hf, hn, e, hd⟩, ih (fun b hb => hs b (by unfold frs; rw [List.filterMap_cons, hf]; exact List.mem_cons_of_mem _ hb)) hr⟩
  exact all X.outer (fun _ hb => hb) I.ok.funs

theorem Inv.stack (I : Inv X pins σ H s) : s.heap.FunFrames X.base X.stack := by
  rcases I.ok.stk with e | ⟨e, hf⟩
  · rw [e]; exact I.funs
  · rw [e]
    obtain ⟨m, hn, _⟩ := I.loc
    refine .cons (by rw [I.ok.kind]; decide) hf hn ?_ I.funs
    exact Heap.get?_none_of_le (Nat.le_trans I.ok.bsz I.ok.above)
theorem Inv.stkSub (I : Inv X pins σ H s) : ∀ b ∈ frs X.stack, b ∈ X.env.locals :: X.fs := fun b hb => by
  rcases I.ok.stk with e | ⟨e, hf⟩
  · rw [e] at hb; exact List.mem_cons_of_mem _ hb
  · rw [e] at hb
    unfold frs at hb
    rw [List.filterMap_cons, hf] at hb
    exact hb
theorem Inv.stkFree (I : Inv X pins σ H s) : ∀ b ∈ frs X.stack, H b = none := fun b hb => by
  rcases List.mem_cons.mp (I.stkSub b hb) with e | hb
  · rw [e]; exact I.free
  · obtain ⟨_, o, ho, _⟩ := I.ok.funs.mem hb
    exact I.base.free b o ho (I.ok.frf b hb) fun z => I.ok.exfs b z hb

theorem Inv.step {g' : Array GenState} {t' : Nat} {d' : Drawn} {ch : List Addr} (I : Inv X pins σ H s)
    (hch : ∀ b ∈ ch, (b ∈ X.ex ∨ X.s₀.heap.objs.size ≤ b) ∧ b ≠ X.env.locals ∧ (∀ x c, X.env.cells.lookup x = some c → c ≠ b) ∧ ∀ p ∈ X.pn ++ pins, p.1 ≠ b)
    (keep : ∀ b o, b ≠ X.env.locals → b ∉ X.fs → b ∉ ch → s.heap.get? b = some o → H b = none → h'.get? b = some o)
    (slot : ∀ b o, b ≠ X.env.locals → b ∈ X.fs → b ∉ ch → s.heap.get? b = some o → H b = none → ∃ sl, h'.get? b = some { o with slots := sl }) (free : ∀ b o, b ∉ ch → s.heap.get? b = some o → H b = none → H' b = none)
    (there : ∀ b o, b ∉ ch → s.heap.get? b = some o → ∃ o', h'.get? b = some o')
    (tups : ∀ b xs, H b = some (.tup xs) → H' b = some (.tup xs)) (frzs : ∀ b o u, H b = some (.frz o u) → H' b = some (.frz o u)) (tbls : ∀ b ps, H b = some (.tbl ps) → ∃ more, H' b = some (.tbl (ps ++ more)))
    (ns : ∀ m, s.heap.Ns X.env.locals m → h'.Ns X.env.locals m) (hok : HOk X.prog X.w H' h') (hg : AllBare g') :
    Inv X pins σ H' { s with heap := h', gens := g', drawn := d', toks := t' } := by
  have neL : ∀ b o, X.s₀.heap.get? b = some o → b ≠ X.env.locals := fun b o e => Nat.ne_of_lt (Nat.lt_of_lt_of_le (Heap.lt_size e) I.ok.above)
  have neC : ∀ b o, X.s₀.heap.get? b = some o → b ∉ X.ex → b ∉ ch := fun b o e hx hb => by
    rcases (hch b hb).1 with z | z
    · exact hx z
    · exact absurd (Nat.lt_of_lt_of_le (Heap.lt_size e) z) (Nat.lt_irrefl _)
  have cellK : ∀ x c, X.env.cells.lookup x = some c → ∀ v, s.heap.IsCell c v → h'.IsCell c v := fun x c e v ⟨o, ho, hd⟩ => by
    have nch : c ∉ ch := fun z => (hch c z).2.2.1 x c e rfl
    by_cases hc : c ∈ X.fs
    · obtain ⟨sl, q⟩ := slot c o (I.cne x c e) hc nch ho (I.freeC x c e)
      exact ⟨_, q, hd⟩
    · exact ⟨o, keep c o (I.cne x c e) hc nch ho (I.freeC x c e), hd⟩
  refine ⟨I.ok, I.os, hg, ⟨fun b o e n hb hx => ?_, fun b o e n hb hx => ?_, fun b o e n hx => ?_, fun b o e hx => ?_, fun b xs e => tups b xs (I.base.tups b xs e), fun b o xs e => frzs b o xs (I.base.frzs b o xs e), fun b ps e => ?_⟩, ?_, fun x c e => ?_, ?_, fun x c e => ?_, fun p hp => ?_, hok, I.len⟩
  · exact keep b o (neL b o e) hb (neC b o e hx) (I.base.keep b o e n hb hx) (I.base.free b o e n hx)
  · obtain ⟨sl, e1⟩ := I.base.slot b o e n hb hx
    obtain ⟨sl', e2⟩ := slot b _ (neL b o e) hb (neC b o e hx) e1 (I.base.free b o e n hx)
    exact ⟨sl', e2⟩
  · obtain ⟨o', e1⟩ := I.base.there b o e hx
    exact free b o' (neC b o e hx) e1 (I.base.free b o e n hx)
  · obtain ⟨o', e1⟩ := I.base.there b o e hx
    exact there b o' (neC b o e hx) e1
  · obtain ⟨m1, e1⟩ := I.base.tbls b ps e
    obtain ⟨m2, e2⟩ := tbls b _ e1
    exact ⟨m1 ++ m2, by rw [e2, Array.append_assoc]⟩
  · obtain ⟨m, hn, hl⟩ := I.loc
    refine ⟨m, ns m hn, fun i x v e1 e2 e3 => ?_⟩
    obtain ⟨u, r, l⟩ := hl i x v e1 e2 e3
    refine ⟨u, r, ?_⟩
    rcases l with l | ⟨k, c, e, z⟩
    · exact .inl l
    · exact .inr ⟨k, c, e, cellK x c e _ z⟩
  · obtain ⟨v, z⟩ := I.cell x c e
    exact ⟨v, cellK x c e v z⟩
  · obtain ⟨m, ⟨o, _, _, ho, _⟩, _⟩ := I.loc
    exact free _ o (fun z => (hch _ z).2.1 rfl) ho I.free
  · obtain ⟨v, o, ho, hd⟩ := I.cell x c e
    exact free c o (fun z => (hch c z).2.2.1 x c e rfl) ho (I.freeC x c e)
  · obtain ⟨e, n, ne, nf, d⟩ := I.pin p hp
    have nch : p.1 ∉ ch := fun z => (hch p.1 z).2.2.2 p hp rfl
    exact ⟨keep p.1 p.2 ne nf nch e n, free p.1 p.2 nch e n, ne, nf, d⟩
theorem Inv.un {t' : Nat} (I : Inv X pins σ H s) (u : Un X.fs [] H H' s.heap h') (hok : HOk X.prog X.w H' h') : Inv X pins σ H' { s with heap := h', toks := t' } := by
  obtain ⟨m, ⟨o, es, ep, ho, r⟩, _⟩ := id I.loc
  obtain ⟨sl, hL⟩ := u.any ho I.free (by simp)
  exact I.step (g' := s.gens) (d' := s.drawn) (ch := []) (fun _ z => nomatch z) (fun b o _ hb _ e n => u.keep b o e n hb (by simp)) (fun b o _ hb _ e n => u.slot b o e n hb (by simp)) (fun b o _ e n => u.free b o e n (by simp)) (fun b o _ e => u.there b o e (by simp)) u.tups u.frzs u.tbls (fun m' hm => by
    obtain ⟨o', es', ep', ho', r'⟩ := hm
    rw [ho] at ho'; cases ho'
    exact ⟨_, es', ep', hL, r'⟩) hok I.bare
theorem Inv.call {g' : Array GenState} {t' : Nat} {d' : Drawn} {ch : List Addr} (I : Inv X pins σ H s) (u : Un (frs X.stack) ch H H' s.heap h') (hok : HOk X.prog X.w H' h') (hg : AllBare g')
    (hch : ∀ b ∈ ch, (b ∈ X.ex ∨ X.s₀.heap.objs.size ≤ b) ∧ b ≠ X.env.locals ∧ (∀ x c, X.env.cells.lookup x = some c → c ≠ b) ∧ ∀ p ∈ X.pn ++ pins, p.1 ≠ b) :
    Inv X pins σ H' { s with heap := h', gens := g', drawn := d', toks := t' } := by
  obtain ⟨m, ⟨o, es, ep, ho, r⟩, _⟩ := id I.loc
  obtain ⟨sl, hL⟩ := u.any ho I.free fun z => (hch _ z).2.1 rfl
  exact I.step (ch := ch) hch (fun b o hL hb hc e n => u.keep b o e n (fun z => (List.mem_cons.mp (I.stkSub b z)).elim hL hb) hc) (fun b o _ _ hc e n => u.any e n hc) (fun b o hc e n => u.free b o e n hc) (fun b o hc e => u.there b o e hc) u.tups u.frzs u.tbls (fun m' hm => by
    obtain ⟨o', es', ep', ho', r'⟩ := hm
    rw [ho] at ho'; cases ho'
    exact ⟨_, es', ep', hL, r'⟩) hok hg
theorem Inv.turned {t' : Nat} {it : Addr} (I : Inv X pins σ H s) (k : ∀ b o, b ≠ it → s.heap.get? b = some o → h'.get? b = some o) (hn : H it = none) (hL : it ≠ X.env.locals)
    (h1 : it ∈ X.ex ∨ X.s₀.heap.objs.size ≤ it) (h2 : ∀ x c, X.env.cells.lookup x = some c → c ≠ it) (h3 : ∀ p ∈ X.pn ++ pins, p.1 ≠ it) : Inv X pins σ H { s with heap := h', toks := t' } := by
  have nit : ∀ b u, H b = some u → b ≠ it := fun b u e z => by rw [z, hn] at e; cases e
  refine I.step (g' := s.gens) (d' := s.drawn) (ch := [it]) (fun b hb => ?_) (fun b o _ _ hc e _ => k b o (fun z => hc (by simp [z])) e) (fun b o _ _ hc e _ => ⟨o.slots, k b o (fun z => hc (by simp [z])) e⟩) (fun _ _ _ _ n => n)
    (fun b o hc e => ⟨o, k b o (fun z => hc (by simp [z])) e⟩) (fun _ _ e => e) (fun _ _ _ e => e) (fun b ps e => ⟨#[], by rw [e]; simp⟩) (fun m hm => ?_) (fun b u e => ?_) I.bare
  · have e : b = it := by simpa using hb
    subst e
    exact ⟨h1, hL, h2, h3⟩
  · obtain ⟨o, es, ep, ho, r⟩ := hm
    exact ⟨o, es, ep, k _ o (Ne.symm hL) ho, r⟩
  · refine (I.hok b u e).stay (fun c v hc q => k c v ?_ q) (fun _ q => q) fun _ _ q => q
    rcases hc with z | z
    · rw [z]; exact nit b u e
    · exact nit c _ z
theorem Inv.tok (I : Inv X pins σ H s) (t : Nat) : Inv X pins σ H { s with toks := t } := I.un (h' := s.heap) (t' := t) Un.refl I.hok
theorem Inv.kept {t' : Nat} (I : Inv X pins σ H s) (k : ∀ b u, s.heap.get? b = some u → h'.get? b = some u) : Inv X pins σ H { s with heap := h', toks := t' } := I.un (Un.kept k) (I.hok.kept k)
theorem Inv.laid {a : Addr} {o : HO} {t' : Nat} (I : Inv X pins σ H s) (k : ∀ b u, s.heap.get? b = some u → h'.get? b = some u) (hp : s.heap.objs.size ≤ a) (new : ObjOk X.prog X.w (upd H a o) h' a o) :
    Inv X pins σ (upd H a o) { s with heap := h', toks := t' } := I.un (Un.laid k hp (I.hok.fresh hp)) (I.hok.laid k hp new)
theorem Inv.write {x e : Addr} {o : HO} {t' : Nat} (I : Inv X pins σ H s) (mu : Mut (H x)) (he : e = x ∨ H e = some (.own x)) (k : ∀ b u, b ≠ e → s.heap.get? b = some u → h'.get? b = some u) (heo : ∃ u, h'.get? e = some u)
    (new : ObjOk X.prog X.w (upd H x o) h' x o) : Inv X pins σ (upd H x o) { s with heap := h', toks := t' } := I.un (Un.write mu he k heo) (I.hok.write mu he k heo new)
theorem Inv.weak {σ' : List (Option V)} (I : Inv X pins σ H s) (hl : σ'.length = σ.length) (w : ∀ (i : Nat) v, σ'[i]? = some (some v) → σ[i]? = some (some v)) : Inv X pins σ' H s :=
  ⟨I.ok, I.os, I.bare, I.base, let ⟨m, hn, hl'⟩ := I.loc; ⟨m, hn, fun i x v e1 e2 e3 => hl' i x v e1 (w i v e2) e3⟩, I.cell, I.free, I.freeC, I.pin, I.hok, hl.trans I.len⟩
theorem Inv.pins_of {pins' : List (Addr × Obj)} (I : Inv X pins σ H s) (h : ∀ p ∈ pins', s.heap.get? p.1 = some p.2 ∧ H p.1 = none ∧ p.1 ≠ X.env.locals ∧ p.1 ∉ X.fs ∧ ∀ v, p.2.data ≠ .cell v) : Inv X pins' σ H s :=
  ⟨I.ok, I.os, I.bare, I.base, I.loc, I.cell, I.free, I.freeC, fun p hp => (List.mem_append.mp hp).elim (fun z => I.pin p (List.mem_append_left _ z)) (h p), I.hok, I.len⟩

theorem nodup_ix {N : List Str} (hN : N.Nodup) {i j : Nat} {x : Str} (a : N[i]? = some x) (b : N[j]? = some x) : i = j := by
  obtain ⟨h1, e1⟩ := List.getElem?_eq_some_iff.mp a
  obtain ⟨h2, e2⟩ := List.getElem?_eq_some_iff.mp b
  exact (List.getElem_inj hN).mp (e1.trans e2.symm)

theorem store_ok2 {M : Model} {A : Around} {E : Value → Shared → Prop} {i : Nat} {x : Str} {v : V} {u : Value} {Q : Unit → Shared → Prop} (I : Inv X pins σ H s) (hN : X.N.Nodup) (hi : X.N[i]? = some x) (hx : Loc X.env.scope x) (r : RelV v u)
    (h : ∀ s', Inv X pins (σ.set i (some v)) H s' → (∃ a, Heap.SameBut a s.heap s'.heap ∧ (a = X.env.locals ∨ X.env.cells.lookup x = some a)) → Q () s') (hf : X.fn x = true ∨ X.env.scope.names.lookup x = some .local := by first | exact .inl rfl | exact .inr rfl | assumption) : wpAny M A (storeName X.env x u) Q E s := by
  obtain ⟨m, hn, hl⟩ := id I.loc
  have hcls : (X.env.scope.kind == .class || (X.env.scope.kind == .module && X.env.locals != X.env.globals)) = false := by rw [I.ok.kind]; rfl
  have hiσ : i < σ.length := by rw [I.len]; exact (List.getElem?_eq_some_iff.mp hi).1
  have cne := I.cne
  have tracked : ∀ {a : Addr} {h' : Heap}, (∃ o, s.heap.get? a = some o ∧ H a = none) → Heap.SameBut a s.heap h' → HOk X.prog X.w H h' := fun {a h'} ha hs b ob e => by
    obtain ⟨_, _, hfree⟩ := ha
    refine (I.hok b ob e).stay (fun c w' hc q => (hs.2 c ?_).trans q) (fun _ q => q) fun _ _ q => q
    rintro rfl
    rcases hc with rfl | hc
    · rw [hfree] at e; cases e
    · rw [hfree] at hc; cases hc
  rcases hx with hk | hk
  · refine wpAny_storeName_local hk hn (fun h' hn' hs => ?_) hcls
    obtain ⟨oL, _, _, hoL, _⟩ := id hn
    refine h _ ⟨I.ok, I.os, I.bare, ⟨fun b o e n hb hx => ?_, fun b o e n hb hx => ?_, I.base.free, fun b o e hx => ?_, I.base.tups, I.base.frzs, I.base.tbls⟩, ⟨_, hn', fun j y v' e1 e2 e3 => ?_⟩, fun y c e => ?_, I.free, I.freeC, fun p hp => ?_, tracked ⟨oL, hoL, I.free⟩ hs, by simpa using I.len⟩ ⟨_, hs, .inl rfl⟩
    · exact (hs.2 b (Nat.ne_of_lt (Nat.lt_of_lt_of_le (Heap.lt_size e) I.ok.above))).trans (I.base.keep b o e n hb hx)
    · obtain ⟨sl, e1⟩ := I.base.slot b o e n hb hx
      exact ⟨sl, (hs.2 b (Nat.ne_of_lt (Nat.lt_of_lt_of_le (Heap.lt_size e) I.ok.above))).trans e1⟩
    · obtain ⟨o', e1⟩ := I.base.there b o e hx
      exact ⟨o', (hs.2 b (Nat.ne_of_lt (Nat.lt_of_lt_of_le (Heap.lt_size e) I.ok.above))).trans e1⟩
    · by_cases hj : j = i
      · subst hj
        rw [hi] at e1; cases e1
        rw [List.getElem?_set_self hiσ] at e2
        cases e2
        exact ⟨u, r, .inl ⟨hk, by simp⟩⟩
      · rw [List.getElem?_set_ne (Ne.symm hj)] at e2
        obtain ⟨u', r', q⟩ := hl j y v' e1 e2 e3
        refine ⟨u', r', ?_⟩
        rcases q with ⟨k, e⟩ | ⟨k, c, e, z⟩
        · refine .inl ⟨k, ?_⟩
          have : y ≠ x := fun e => hj (nodup_ix hN e1 (e ▸ hi))
          simp [this, e]
        · exact .inr ⟨k, c, e, z.sameBut hs (cne y c e)⟩
    · obtain ⟨w', z⟩ := I.cell y c e
      exact ⟨w', z.sameBut hs (cne y c e)⟩
    · obtain ⟨e, n, ne, nf, d⟩ := I.pin p hp
      exact ⟨(hs.2 p.1 ne).trans e, n, ne, nf, d⟩
  · have hfn : X.fn x = true := by
      rcases hf with z | z
      · exact z
      · rw [z] at hk; cases hk
    obtain ⟨c, hc⟩ := I.ok.has x (.inl hk)
    obtain ⟨w', z⟩ := I.cell x c hc
    refine wpAny_storeName_cell I.ok.kind hk hc z (fun h' hc' hs => ?_)
    obtain ⟨oc, hoc, hocd⟩ := id z
    refine h { s with heap := h' } ⟨I.ok, I.os, I.bare, ⟨fun b o e n hb hx => ?_, fun b o e n hb hx => ?_, I.base.free, fun b o e hx => ?_, I.base.tups, I.base.frzs, I.base.tbls⟩, ⟨m, hn.sameBut hs (Ne.symm (cne x c hc)), fun j y v' e1 e2 e3 => ?_⟩, fun y c' e => ?_, I.free, I.freeC, fun p hp => ?_, tracked ⟨oc, hoc, I.freeC x c hc⟩ hs, by simpa using I.len⟩ ⟨c, hs, .inr hc⟩
    · exact (hs.2 b (Nat.ne_of_lt (Nat.lt_of_lt_of_le (Heap.lt_size e) (I.ok.cab x c hfn hc)))).trans (I.base.keep b o e n hb hx)
    · obtain ⟨sl, e1⟩ := I.base.slot b o e n hb hx
      exact ⟨sl, (hs.2 b (Nat.ne_of_lt (Nat.lt_of_lt_of_le (Heap.lt_size e) (I.ok.cab x c hfn hc)))).trans e1⟩
    · obtain ⟨o', e1⟩ := I.base.there b o e hx
      exact ⟨o', (hs.2 b (Nat.ne_of_lt (Nat.lt_of_lt_of_le (Heap.lt_size e) (I.ok.cab x c hfn hc)))).trans e1⟩
    · by_cases hj : j = i
      · subst hj
        rw [hi] at e1; cases e1
        rw [List.getElem?_set_self hiσ] at e2
        cases e2
        exact ⟨u, r, .inr ⟨.inl hk, c, hc, hc'⟩⟩
      · rw [List.getElem?_set_ne (Ne.symm hj)] at e2
        obtain ⟨u', r', q⟩ := hl j y v' e1 e2 e3
        refine ⟨u', r', ?_⟩
        rcases q with q | ⟨k, c', e, z'⟩
        · exact .inl q
        · refine .inr ⟨k, c', e, z'.sameBut hs ?_⟩
          rintro rfl
          exact hj (nodup_ix hN e1 (I.ok.inj _ _ _ e hc ▸ hi))
    · by_cases hcc : c' = c
      · subst hcc; exact ⟨_, hc'⟩
      · obtain ⟨w2, z2⟩ := I.cell y c' e
        exact ⟨w2, z2.sameBut hs hcc⟩
    · obtain ⟨e, n, ne, nf, d⟩ := I.pin p hp
      refine ⟨(hs.2 p.1 ?_).trans e, n, ne, nf, d⟩
      intro q
      rw [q, hoc] at e
      have q' : oc = p.2 := Option.some.inj e
      exact d w' (by rw [← q']; exact hocd)
theorem store_ok {M : Model} {A : Around} {E : Value → Shared → Prop} {i : Nat} {x : Str} {v : V} {u : Value} {Q : Unit → Shared → Prop} (I : Inv X pins σ H s) (hN : X.N.Nodup) (hi : X.N[i]? = some x) (hx : Loc X.env.scope x) (r : RelV v u)
    (h : ∀ s', Inv X pins (σ.set i (some v)) H s' → Q () s') (hf : X.fn x = true ∨ X.env.scope.names.lookup x = some .local := by first | exact .inl rfl | exact .inr rfl | assumption) : wpAny M A (storeName X.env x u) Q E s :=
  store_ok2 I hN hi hx r (fun s' I' _ => h s' I') hf
theorem Inv.call' {s' : Shared} {ch : List Addr} (I : Inv X pins σ H s) (ho : s'.os = s.os) (u : Un (frs X.stack) ch H H' s.heap s'.heap) (hok : HOk X.prog X.w H' s'.heap) (hg : AllBare s'.gens)
    (hch : ∀ b ∈ ch, (b ∈ X.ex ∨ X.s₀.heap.objs.size ≤ b) ∧ b ≠ X.env.locals ∧ (∀ x c, X.env.cells.lookup x = some c → c ≠ b) ∧ ∀ p ∈ X.pn ++ pins, p.1 ≠ b) : Inv X pins σ H' s' := by
  obtain ⟨h', g', d', t', o'⟩ := s'
  have e : o' = s.os := ho
  subst e
  exact I.call (g' := g') (t' := t') (d' := d') u hok hg hch
end

abbrev XK := Value → Option Addr → Hp → Prop
abbrev St := List (Option V)
abbrev VK := V → Hp → Prop
abbrev TE := St → Hp → VK → Prop
abbrev TT := St → Hp → (Bool → Hp → Prop) → Prop
abbrev TA := St → Hp → (List V → Hp → Prop) → Prop
structure Ends where
  nx : St → Hp → Prop
  rt : VK
  bk : St → Hp → Prop := fun _ _ => False
  ct : St → Hp → Prop := fun _ _ => False
abbrev TS := Ends → St → Hp → Prop

def EP (X : Cx) (pins : List (Addr × Obj)) (σ : St) (Q : VK) (u : Value) (s' : Shared) : Prop := ∃ v H', Inv X pins σ H' s' ∧ RelV v u ∧ Q v H'
def TP (X : Cx) (pins : List (Addr × Obj)) (σ : St) (Q : Bool → Hp → Prop) (b : Bool) (s' : Shared) : Prop := ∃ H', Inv X pins σ H' s' ∧ Q b H'
def AP (X : Cx) (pins : List (Addr × Obj)) (σ : St) (Q : List V → Hp → Prop) (us : List Value) (s' : Shared) : Prop := ∃ vs H', Inv X pins σ H' s' ∧ Vals vs us ∧ Q vs H'
def SP (X : Cx) (pins : List (Addr × Obj)) (D : Ends) (f : Flow) (s' : Shared) : Prop :=
  match f with
  | .next => ∃ σ' H', Inv X pins σ' H' s' ∧ D.nx σ' H'
  | .brk => ∃ σ' H', Inv X pins σ' H' s' ∧ D.bk σ' H'
  | .cont => ∃ σ' H', Inv X pins σ' H' s' ∧ D.ct σ' H'
  | .ret u => ∃ v σ' H', Inv X pins σ' H' s' ∧ RelV v u ∧ D.rt v H'

def PE (X : Cx) (e : Expr) (t : TE) : Prop :=
  ∀ (pins : List (Addr × Obj)) (s : Shared) (σ : St) (H : Hp) (Q : VK), Inv X pins σ H s → t σ H Q → wpAny (model X.prog X.w) X.A (eval e X.env) (EP X pins σ Q) X.xe s
def PT (X : Cx) (e : Expr) (t : TT) : Prop :=
  ∀ (pins : List (Addr × Obj)) (s : Shared) (σ : St) (H : Hp) (Q : Bool → Hp → Prop), Inv X pins σ H s → t σ H Q → wpAny (model X.prog X.w) X.A (isTrue e X.env (eval e X.env)) (TP X pins σ Q) X.xe s
def PW (X : Cx) (e : Expr) (t : TT) : Prop :=
  ∀ (whole : Sem Value) (pins : List (Addr × Obj)) (s : Shared) (σ : St) (H : Hp) (Q : Bool → Hp → Prop), Inv X pins σ H s → t σ H Q → wpAny (model X.prog X.w) X.A (isTrue e X.env whole) (TP X pins σ Q) X.xe s
theorem PW.pt {X : Cx} {e : Expr} {t : TT} (h : PW X e t) : PT X e t := h _
def PA (X : Cx) (es : List Expr) (t : TA) : Prop :=
  ∀ (pos : Pos) (pins : List (Addr × Obj)) (s : Shared) (σ : St) (H : Hp) (Q : List V → Hp → Prop), Inv X pins σ H s → t σ H Q → wpAny (model X.prog X.w) X.A (spliced (backTo pos (starEach es X.env))) (AP X pins σ Q) X.xe s
def PS (X : Cx) (st : Stmt) (t : TS) : Prop :=
  ∀ (pins : List (Addr × Obj)) (s : Shared) (σ : St) (H : Hp) (D : Ends), Inv X pins σ H s → t D σ H → wpAny (model X.prog X.w) X.A (exec st X.env) (SP X pins D) X.xe s
def PSs (X : Cx) (st : List Stmt) (t : TS) : Prop :=
  ∀ (pins : List (Addr × Obj)) (s : Shared) (σ : St) (H : Hp) (D : Ends), Inv X pins σ H s → t D σ H → wpAny (model X.prog X.w) X.A (execs st X.env) (SP X pins D) X.xe s
theorem thn {α : Type} {t : Sem α} {Q Q' : α → Shared → Prop} {M : Model} {A : Around} {E : Value → Shared → Prop} {s : Shared} (h : wpAny M A t Q E s) (hQ : ∀ a s, Q a s → Q' a s) : wpAny M A t Q' E s := wpAny_mono h hQ fun _ _ x => x
end L2

namespace L2
open PySem PySem.Spec PyProof.Rows
section
variable {X : Cx}

def tVar (i : Nat) : TE := fun σ H Q => ∃ v, σ[i]? = some (some v) ∧ Q v H
def tC (v : V) : TE := fun _ H Q => Q v H
theorem pe_var {i : Nat} {x : Str} {pos : Pos} (hN : X.N[i]? = some x) (hv : Vis X.env.scope x) (hd : (x == ("__debug__" : Str)) = false := by decide) (hcd : (x == ("__classdict__" : Str)) = false := by decide) : PE X (.Name x pos) (tVar i) := by
  intro pins s σ H Q I h
  obtain ⟨v, e, h⟩ := h
  obtain ⟨m, hn, hl⟩ := I.loc
  obtain ⟨u, r, l⟩ := hl i x v hN e hv
  have fin : EP X pins σ Q u s := ⟨v, H, I, r, h⟩
  rcases l with ⟨hk, hm⟩ | ⟨hk, c, hc, hcell⟩
  · exact wpAny_Name (wpAny_loadName_local I.ok.kind hk hn hm fin) hd
  · rcases hk with hk | hk
    · exact wpAny_Name (wpAny_loadName_cell I.ok.kind hk hc hcell fin) hd
    · exact wpAny_Name (wpAny_loadName_free I.ok.kind hk hc hcell fin hcd) hd
theorem pe_int {i j pos} : PE X (.Constant (.int i) j pos) (tC (.int i)) := fun _ _ _ H _ I h => wpAny_Constant_int ⟨.int i, H, I.tok _, ⟨_, rfl⟩, h⟩
theorem pe_bl {b j pos} : PE X (.Constant (.bool b) j pos) (tC (.bl b)) := fun _ _ _ H _ I h => Constant_bool ⟨.bl b, H, I, rfl, h⟩
theorem pe_non {j pos} : PE X (.Constant .none j pos) (tC .non) := fun _ _ _ H _ I h => Constant_none ⟨.non, H, I, rfl, h⟩
theorem pe_str {x j pos} : PE X (.Constant (.str x) j pos) (tC (.str x)) := fun _ _ _ H _ I h => Calls.Constant_str ⟨.str x, H, I.tok _, ⟨_, rfl⟩, h⟩

def Gl (X : Cx) (x : Str) : Prop := X.env.kindOf x = some .globalImplicit
theorem ld_glob {E : Value → Shared → Prop} {pins : List (Addr × Obj)} {s : Shared} {σ : St} {H : Hp} {x : Str} {u : Value} {pos : Pos} {Q : Value → Shared → Prop} (I : Inv X pins σ H s) (hg : Gl X x) (hm : X.mg x = some u) (h : Q u s)
    (hd : (x == ("__debug__" : Str)) = false := by decide) : wpAny (model X.prog X.w) X.A (eval (.Name x pos) X.env) Q E s :=
  Calls.Name_function_global I.ok.kind hg (Calls.loadGlobal_global (by rw [I.ok.glob]; exact I.mod.glob.keeps I.bk) hm h) hd
theorem ld_blt {E : Value → Shared → Prop} {pins : List (Addr × Obj)} {s : Shared} {σ : St} {H : Hp} {x : Str} {u : Value} {pos : Pos} {Q : Value → Shared → Prop} (I : Inv X pins σ H s) (hg : Gl X x) (hm : X.mg x = none) (hv : bootBuiltins x = some u) (h : Q u s)
    (hn : x ≠ "__name__" := by decide) (hd : (x == ("__debug__" : Str)) = false := by decide) : wpAny (model X.prog X.w) X.A (eval (.Name x pos) X.env) Q E s := by
  obtain ⟨mb, h1, h2⟩ := I.mod.blt
  exact Calls.Name_function_global I.ok.kind hg (Calls.loadGlobal_builtin (by rw [I.ok.glob]; exact I.mod.glob.keeps I.bk) hm (by rw [I.ok.blt]; exact h1.keeps I.bk) ((h2 x hn).trans hv) h) hd
theorem pe_glob {x : Str} {v : V} {u : Value} {pos : Pos} (hg : Gl X x) (hm : X.mg x = some u) (r : RelV v u) (hd : (x == ("__debug__" : Str)) = false := by decide) : PE X (.Name x pos) (tC v) :=
  fun _ _ _ H _ I h => ld_glob I hg hm ⟨v, H, I, r, h⟩ hd
theorem pe_bltn {x : Str} {v : V} {u : Value} {pos : Pos} (hg : Gl X x) (hm : X.mg x = none) (hv : bootBuiltins x = some u) (r : RelV v u) (hn : x ≠ "__name__" := by decide) (hd : (x == ("__debug__" : Str)) = false := by decide) : PE X (.Name x pos) (tC v) :=
  fun _ _ _ H _ I h => ld_blt I hg hm hv ⟨v, H, I, r, h⟩ hn hd

variable {a b : Expr} {ta tb : TE} {pos : Pos}
def tB (t : TE) : TT := fun σ H Q => t σ H fun x H1 => ∃ c, x = .bl c ∧ Q c H1
theorem pt_val {e : Expr} {t : TE} (h : PE X e t) (he : ∀ whole, isTrue e X.env whole = (do let v ← whole; standAt e.pos; holding [v] (truthy v)) := by intro _; rfl) : PT X e (tB t) := by
  intro pins s σ H Q I hw
  refine isTrue_plain (thn (h pins s σ H _ I hw) fun v s1 ⟨x, H1, I1, r1, q1⟩ => ?_) (he _)
  obtain ⟨d, rfl, q⟩ := q1
  cases r1
  exact wpAny_truthy_bool ⟨H1, I1, q⟩

variable {tA tB' : TT} {rest : List Expr}
def tAnd (t u : TT) : TT := fun σ H Q => t σ H fun c H1 => if c = true then u σ H1 Q else Q false H1
def tOr (t u : TT) : TT := fun σ H Q => t σ H fun c H1 => if c = true then Q true H1 else u σ H1 Q
def tNot (t : TT) : TT := fun σ H Q => t σ H fun c H1 => Q (!c) H1
theorem pw_and1 (ha : PT X a tA) : PW X (.BoolOp .And [a] pos) tA := by
  intro wh pins s σ H Q I h
  refine isTrue_and (thn (ha pins s σ H Q I h) fun c s1 e => ?_)
  cases c with
  | true => exact isTrue_and_nil e
  | false => exact e
theorem pw_or1 (ha : PT X a tA) : PW X (.BoolOp .Or [a] pos) tA := by
  intro wh pins s σ H Q I h
  refine isTrue_or (thn (ha pins s σ H Q I h) fun c s1 e => ?_)
  cases c with
  | false => exact isTrue_or_nil e
  | true => exact e
theorem pw_and (ha : PT X a tA) (hb : PW X (.BoolOp .And (b :: rest) pos) tB') : PW X (.BoolOp .And (a :: b :: rest) pos) (tAnd tA tB') := by
  intro wh pins s σ H Q I h
  refine isTrue_and (thn (ha pins s σ H _ I h) fun c s1 ⟨H1, I1, q1⟩ => ?_)
  cases c with
  | true => exact hb wh pins s1 σ H1 Q I1 q1
  | false => exact ⟨H1, I1, q1⟩
theorem pw_or (ha : PT X a tA) (hb : PW X (.BoolOp .Or (b :: rest) pos) tB') : PW X (.BoolOp .Or (a :: b :: rest) pos) (tOr tA tB') := by
  intro wh pins s σ H Q I h
  refine isTrue_or (thn (ha pins s σ H _ I h) fun c s1 ⟨H1, I1, q1⟩ => ?_)
  cases c with
  | true => exact ⟨H1, I1, q1⟩
  | false => exact hb wh pins s1 σ H1 Q I1 q1
theorem pt_not (ha : PT X a tA) : PT X (.UnaryOp .Not a pos) (tNot tA) := by
  intro pins s σ H Q I h
  exact isTrue_not (ha pins s σ H (fun c H1 => Q (!c) H1) I h)
def tAndV (ta tb : TE) : TE := fun σ H Q => ta σ H fun x H1 => ∃ c, x = .bl c ∧ if c = true then tb σ H1 Q else Q (.bl false) H1
def tOrV (ta tb : TE) : TE := fun σ H Q => ta σ H fun x H1 => ∃ c, x = .bl c ∧ if c = true then Q (.bl true) H1 else tb σ H1 Q
def tNotV (ta : TE) : TE := fun σ H Q => ta σ H fun x H1 => ∃ c, x = .bl c ∧ Q (.bl (!c)) H1
theorem pe_one {op} {t : TE} (h : PE X a t) : PE X (.BoolOp op [a] pos) t := fun pins s σ H Q I hw => BoolOp_one (h pins s σ H Q I hw)
theorem pe_and (ha : PE X a ta) (hb : PE X (.BoolOp .And (b :: rest) pos) tb) : PE X (.BoolOp .And (a :: b :: rest) pos) (tAndV ta tb) := by
  intro pins s σ H Q I h
  refine BoolOp_and (thn (ha pins s σ H _ I h) fun v s1 ⟨x, H1, I1, r1, q1⟩ => ?_)
  obtain ⟨c, rfl, q1⟩ := q1
  cases r1
  refine wpAny_truthy_bool ?_
  cases c with
  | true => exact hb pins s1 σ H1 Q I1 q1
  | false => exact ⟨.bl false, H1, I1, rfl, q1⟩
theorem pe_or (ha : PE X a ta) (hb : PE X (.BoolOp .Or (b :: rest) pos) tb) : PE X (.BoolOp .Or (a :: b :: rest) pos) (tOrV ta tb) := by
  intro pins s σ H Q I h
  refine BoolOp_or (thn (ha pins s σ H _ I h) fun v s1 ⟨x, H1, I1, r1, q1⟩ => ?_)
  obtain ⟨c, rfl, q1⟩ := q1
  cases r1
  refine wpAny_truthy_bool ?_
  cases c with
  | false => exact hb pins s1 σ H1 Q I1 q1
  | true => exact ⟨.bl true, H1, I1, rfl, q1⟩
theorem pe_not (ha : PE X a ta) : PE X (.UnaryOp .Not a pos) (tNotV ta) := by
  intro pins s σ H Q I h
  refine UnaryOp_ (thn (ha pins s σ H _ I h) fun v s1 ⟨x, H1, I1, r1, q1⟩ => ?_)
  obtain ⟨c, rfl, q1⟩ := q1
  cases r1
  exact not_of (wpAny_truthy_bool ⟨.bl (!c), H1, I1, rfl, q1⟩)
end
end L2

namespace L2
open PySem PySem.Spec PyProof.Rows

def SqL (K : PySem.W.Frag) (H : Hp) (a : Addr) (xs : List V) : Prop :=
  Rd H a (.lst xs) ∨
    ∃ (o : Obj) (its : Array Value) (n : Nat), K.lookup a = some o ∧ o.cls = .type "list" ∧ o.dict = none ∧ o.data = .seq its n ∧ its.size ≤ sizeLine ∧ Vals xs its.toList
def SqT (K : PySem.W.Frag) (H : Hp) (a : Addr) (xs : List V) : Prop :=
  Rd H a (.tup xs) ∨
    ∃ (o : Obj) (its : Array Value) (n : Nat), K.lookup a = some o ∧ o.cls = .type "tuple" ∧ o.data = .seq its n ∧ its.size ≤ sizeLine ∧ Vals xs its.toList
def absV : Value → Option V
  | .none => some .non
  | .bool b => some (.bl b)
  | .int i _ => some (.int i)
  | .str x _ => some (.str x)
  | .bytes b _ => some (.byt b)
  | .float b _ => some (.flt b)
  | .ref a => some (.ref a)
  | .type n => some (.ty n)
  | _ => none
theorem RelV.abs {x : V} {u : Value} (r : RelV x u) : absV u = some x := by
  cases x with
  | non => cases r; rfl
  | bl _ => cases r; rfl
  | int _ => obtain ⟨t, rfl⟩ := r; rfl
  | str _ => obtain ⟨t, rfl⟩ := r; rfl
  | byt _ => obtain ⟨t, rfl⟩ := r; rfl
  | flt _ => obtain ⟨t, rfl⟩ := r; rfl
  | ref _ => cases r; rfl
  | ty _ => cases r; rfl
theorem RelV.inj {x y : V} {u : Value} (r : RelV x u) (q : RelV y u) : x = y := Option.some.inj (r.abs.symm.trans q.abs)
theorem Vals.inj : ∀ {xs ys : List V} {us : List Value}, Vals xs us → Vals ys us → xs = ys
  | _, _, _, .nil, .nil => rfl
  | _, _, _, .cons r t, .cons r' t' => by rw [r.inj r', Vals.inj t t']
section
variable {X : Cx} {pins : List (Addr × Obj)} {σ : St} {H : Hp} {s : Shared} {a : Addr} {xs ys : List V}
theorem SqL.of {K : PySem.W.Frag} (h : H a = some (.lst xs)) : SqL K H a xs := .inl (.inl h)
theorem SqT.of {K : PySem.W.Frag} (h : H a = some (.tup xs)) : SqT K H a xs := .inl (.inl h)
theorem Inv.list (I : Inv X pins σ H s) (h : SqL X.K H a xs) : ∃ its : List Value, Vals xs its ∧ PlainL s.heap a its.toArray ∧ xs.length ≤ sizeLine := by
  rcases h with h | ⟨o, its, n, hk, hc, hd, hs, hz, r⟩
  · obtain ⟨z, its, n, r, e⟩ := h.ok I.hok
    exact ⟨its, r, ⟨_, n, e, rfl, rfl, rfl⟩, z⟩
  · refine ⟨its.toList, r, ⟨o, n, I.kIn a o hk, hc, hd, by simpa using hs⟩, ?_⟩
    have e := r.length
    simp only [Array.length_toList] at e
    omega
theorem Inv.tuple (I : Inv X pins σ H s) (h : SqT X.K H a xs) : ∃ its : List Value, Vals xs its ∧ IsTup s.heap a its.toArray ∧ xs.length ≤ sizeLine := by
  rcases h with h | ⟨o, its, n, hk, hc, hs, hz, r⟩
  · obtain ⟨z, its, r, p⟩ := h.ok I.hok
    exact ⟨its, r, p, z⟩
  · refine ⟨its.toList, r, ⟨o, I.kIn a o hk, hc, n, by simpa using hs⟩, ?_⟩
    have e := r.length
    simp only [Array.length_toList] at e
    omega
theorem Inv.list_inj (I : Inv X pins σ H s) (h : SqL X.K H a xs) (h' : SqL X.K H a ys) : xs = ys := by
  obtain ⟨its, r, ⟨o, n, e, _, _, d⟩, _⟩ := I.list h
  obtain ⟨its', r', ⟨o', n', e', _, _, d'⟩, _⟩ := I.list h'
  rw [e] at e'; cases e'
  rw [d] at d'
  injection d' with d1 _
  have : its = its' := by simpa using congrArg Array.toList d1
  subst this
  exact r.inj r'
end

abbrev Cx.wish (X : Cx) (E : Value → Shared → Prop) : Cx := { X with xe := E }
abbrev Cx.nox (X : Cx) : Cx := X.wish fun _ _ => False
theorem Cx.Ok.wish {X : Cx} (ok : X.Ok) (E : Value → Shared → Prop) : (X.wish E).Ok :=
  ⟨ok.mod, ok.kind, ok.glob, ok.blt, ok.above, ok.inj, ok.has, ok.cab, ok.hd, ok.frames, ok.stk, ok.exf, ok.bs, ok.bsz, ok.noex, ok.exfs, ok.funs, ok.frf⟩
theorem Cx.Ok.unwish {X : Cx} {E : Value → Shared → Prop} (ok : (X.wish E).Ok) : X.Ok :=
  ⟨ok.mod, ok.kind, ok.glob, ok.blt, ok.above, ok.inj, ok.has, ok.cab, ok.hd, ok.frames, ok.stk, ok.exf, ok.bs, ok.bsz, ok.noex, ok.exfs, ok.funs, ok.frf⟩
section
variable {X : Cx} {pins : List (Addr × Obj)} {σ : St} {H : Hp} {s : Shared} {E : Value → Shared → Prop}
theorem Inv.wish (I : Inv X pins σ H s) (E : Value → Shared → Prop) : Inv (X.wish E) pins σ H s := ⟨I.ok.wish E, I.os, I.bare, I.base, I.loc, I.cell, I.free, I.freeC, I.pin, I.hok, I.len⟩
theorem Inv.unwish (I : Inv (X.wish E) pins σ H s) : Inv X pins σ H s := ⟨I.ok.unwish, I.os, I.bare, I.base, I.loc, I.cell, I.free, I.freeC, I.pin, I.hok, I.len⟩
theorem SP.unwish {D : Ends} {f : Flow} {s' : Shared} (h : SP (X.wish E) pins D f s') : SP X pins D f s' := by
  cases f with
  | next => obtain ⟨σ', H', I, q⟩ := h; exact ⟨σ', H', I.unwish, q⟩
  | brk => obtain ⟨σ', H', I, q⟩ := h; exact ⟨σ', H', I.unwish, q⟩
  | cont => obtain ⟨σ', H', I, q⟩ := h; exact ⟨σ', H', I.unwish, q⟩
  | ret u => obtain ⟨v, σ', H', I, r, q⟩ := h; exact ⟨v, σ', H', I.unwish, r, q⟩
theorem PE.nox {e : Expr} {t : TE} (h : PE X.nox e t) : PE X e t := fun pins s σ H Q I hw =>
  wpAny_mono (h pins s σ H Q (I.wish _) hw) (fun _ _ ⟨v, H', I', r, q⟩ => ⟨v, H', I'.unwish, r, q⟩) fun _ _ z => False.elim z
theorem PT.nox {e : Expr} {t : TT} (h : PT X.nox e t) : PT X e t := fun pins s σ H Q I hw =>
  wpAny_mono (h pins s σ H Q (I.wish _) hw) (fun _ _ ⟨H', I', q⟩ => ⟨H', I'.unwish, q⟩) fun _ _ z => False.elim z
theorem PSs.nox {st : List Stmt} {t : TS} (h : PSs X.nox st t) : PSs X st t := fun pins s σ H D I hw =>
  wpAny_mono (h pins s σ H D (I.wish _) hw) (fun _ _ q => q.unwish) fun _ _ z => False.elim z
end

section
variable {X : Cx} {st : Stmt} {rest : List Stmt} {t u : TS} {e : Expr} {te : TE} {pos : Pos}
def tNext : TS := fun D σ H => D.nx σ H
def tSeq (t u : TS) : TS := fun D σ H => t { D with nx := u D } σ H
theorem pss_nil : PSs X [] tNext := fun _ _ σ H _ I h => wpAny_execs_nil ⟨σ, H, I, h⟩
theorem pss_cons (h1 : PS X st t) (h2 : PSs X rest u) : PSs X (st :: rest) (tSeq t u) := by
  intro pins s σ H D I h
  refine wpAny_execs_cons (thn (h1 pins s σ H { D with nx := u D } I h) fun f s1 q => ?_)
  cases f with
  | next =>
    obtain ⟨σ', H', I', q⟩ := q
    exact h2 pins s1 σ' H' D I' q
  | ret v => exact q
  | brk => exact q
  | cont => exact q
theorem pss_one (h1 : PS X st t) : PSs X [st] t := by
  intro pins s σ H D I h
  refine wpAny_execs_cons (thn (h1 pins s σ H D I h) fun f s1 q => ?_)
  cases f with
  | next => exact wpAny_execs_nil q
  | ret v => exact q
  | brk => exact q
  | cont => exact q
theorem Inv.quiet {pins : List (Addr × Obj)} {σ : St} {H : Hp} {s : Shared} (I : Inv X pins σ H s) : interactive X.env = false := by simp [interactive, I.ok.kind]
def tDrop (te : TE) : TS := fun D σ H => te σ H fun _ H1 => D.nx σ H1
theorem ps_expr (he : PE X e te) (hs : swapsWith e none pos.line X.env = pure false := by rfl) : PS X (.Expr e pos) (tDrop te) := by
  intro pins s σ H D I h
  exact wpAny_Expr_any (thn (he pins s σ H _ I h) fun v s1 ⟨x, H1, I1, r1, q1⟩ => ⟨σ, H1, I1, q1⟩) I.quiet hs
def tRet (te : TE) : TS := fun D σ H => te σ H D.rt
theorem ps_ret (he : PE X e te) : PS X (.Return (some e) pos) (tRet te) := by
  intro pins s σ H D I h
  exact wpAny_Return_some (thn (he pins s σ H _ I h) fun v s1 ⟨x, H1, I1, r1, q1⟩ => ⟨x, σ, H1, I1, r1, q1⟩)
def tIfS (c : TT) (t u : TS) : TS := fun D σ H => c σ H fun b H1 => if b = true then t D σ H1 else u D σ H1
theorem ps_if {c : Expr} {a b : List Stmt} {tc : TT} (hc : PT X c tc) (ha : PSs X a t) (hb : PSs X b u) : PS X (.If c a b pos) (tIfS tc t u) := by
  intro pins s σ H D I h
  refine wpAny_If (thn (hc pins s σ H _ I h) fun d s1 ⟨H1, I1, q1⟩ => ?_)
  cases d with
  | true => exact ha pins s1 σ H1 D I1 q1
  | false => exact hb pins s1 σ H1 D I1 q1
end

abbrev TG := V → St → Hp → (St → Hp → Prop) → Prop
def PG (X : Cx) (target : Expr) (t : TG) : Prop :=
  ∀ (pins : List (Addr × Obj)) (s : Shared) (σ : St) (H : Hp) (v : V) (u : Value) (Q : St → Hp → Prop), Inv X pins σ H s → RelV v u → t v σ H Q →
    wpAny (model X.prog X.w) X.A (assign target X.env u) (fun _ s' => ∃ σ' H', Inv X pins σ' H' s' ∧ Q σ' H') X.xe s
section
variable {X : Cx} {pos : Pos}
def gName (i : Nat) : TG := fun v σ H Q => Q (σ.set i (some v)) H
theorem pg_name {i : Nat} {x : Str} (hN : X.N.Nodup) (hi : X.N[i]? = some x) (hx : Loc X.env.scope x) (hf : X.fn x = true ∨ X.env.scope.names.lookup x = some .local := by first | exact .inl rfl | exact .inr rfl | assumption) : PG X (.Name x pos) (gName i) := by
  intro pins s σ H v u Q I r h
  exact wpAny_assign_Name (store_ok I hN hi hx r (fun s' I' => ⟨_, H, I', h⟩) hf)
def tAsg (te : TE) (g : TG) : TS := fun D σ H => te σ H fun x H1 => g x σ H1 D.nx
theorem ps_set {i : Nat} {x : Str} {e : Expr} {te : TE} {pos' : Pos} (hN : X.N.Nodup) (hi : X.N[i]? = some x) (hx : Loc X.env.scope x) (he : PE X e te) (hs : swapsWith e (some (.Name x pos')) pos.line X.env = pure false := by rfl) (hf : X.fn x = true ∨ X.env.scope.names.lookup x = some .local := by first | exact .inl rfl | exact .inr rfl | assumption) :
    PS X (.Assign [.Name x pos'] e pos) (tAsg te (gName i)) := by
  intro pins s σ H D I h
  refine wpAny_Assign_Name (thn (he pins s σ H _ I h) fun v s1 ⟨y, H1, I1, r1, q1⟩ => ?_) hs
  exact store_ok I1 hN hi hx r1 (fun s2 I2 => ⟨_, H1, I2, q1⟩) hf
end

section
variable {X : Cx} {pos : Pos}
def tWhile (c : TT) (tb : TS) : TS := fun D σ H => ∃ W : Nat → St → Hp → Prop, (∃ m, W m σ H) ∧ ∀ m σ H, W m σ H →
  c σ H fun b H1 => if b = true then ∃ N : St → Hp → Prop, (∀ σ' H', N σ' H' → ∃ m', m' < m ∧ W m' σ' H') ∧ tb { D with nx := N, ct := N, bk := D.nx } σ H1 else D.nx σ H1
theorem ps_while {c : Expr} {body : List Stmt} {tc : TT} {tb : TS} (hp : PassesOwn (model X.prog X.w) X.A X.env X.xe) (hc : PT X c tc) (hb : PSs X body tb) : PS X (.While c body [] pos) (tWhile tc tb) := by
  intro pins s σ H D I h
  obtain ⟨W, ⟨m0, w0⟩, turn⟩ := h
  refine wpAny_While (codeAny_whileLoop (fun n s' => ∃ σ' H', Inv X pins σ' H' s' ∧ W n σ' H') ?_ m0 ⟨σ, H, I, w0⟩)
  rintro n s1 ⟨σ1, H1, I1, w1⟩
  refine wpAny_passesOwn hp (thn (hc pins s1 σ1 H1 _ I1 (turn n σ1 H1 w1)) fun b s2 ⟨H2, I2, q2⟩ => ?_)
  cases b with
  | true =>
    obtain ⟨N, hN, q2⟩ := q2
    rw [if_pos rfl]
    refine wpAny_passesOwn hp (thn (hb pins s2 σ1 H2 _ I2 q2) fun f s3 q3 => ?_)
    cases f with
    | next =>
      obtain ⟨σ3, H3, I3, n3⟩ := q3
      obtain ⟨m', hm, w3⟩ := hN σ3 H3 n3
      exact ⟨m', hm, σ3, H3, I3, w3⟩
    | cont =>
      obtain ⟨σ3, H3, I3, n3⟩ := q3
      obtain ⟨m', hm, w3⟩ := hN σ3 H3 n3
      exact ⟨m', hm, σ3, H3, I3, w3⟩
    | brk => exact q3
    | ret v => exact q3
  | false =>
    rw [if_neg Bool.false_ne_true]
    exact wpAny_execs_nil ⟨σ1, H2, I2, q2⟩
end

structure It where
  go : Nat → Hp → Prop
  yld : Nat → Hp → V → Hp → Prop
  stop : Nat → Hp → Prop
def FpOk (X : Cx) (pins : List (Addr × Obj)) (H : Hp) (b : Addr) : Prop :=
  H b = none ∧ b ≠ X.env.locals ∧ b ∉ X.fs ∧ (b ∈ X.ex ∨ X.s₀.heap.objs.size ≤ b) ∧ (∀ x c, X.env.cells.lookup x = some c → c ≠ b) ∧ ∀ p ∈ X.pn ++ pins, p.1 ≠ b
theorem Inv.fpOk {X : Cx} {pins : List (Addr × Obj)} {σ : St} {H H' : Hp} {s : Shared} {b : Addr} (I : Inv X pins σ H s) (hb : s.heap.objs.size ≤ b) (hn : H' b = none) : FpOk X pins H' b := by
  refine ⟨hn, Nat.ne_of_gt (Nat.lt_of_lt_of_le I.lt hb), I.nofs hb, .inr (Nat.le_trans I.sz hb), fun x c e z => ?_, fun p hp z => ?_⟩
  · obtain ⟨v, q⟩ := I.cell x c e
    exact absurd (Nat.lt_of_lt_of_le q.lt (by rw [z]; exact hb)) (Nat.lt_irrefl _)
  · exact absurd (Nat.lt_of_lt_of_le (Heap.lt_size (I.pin p hp).1) (by rw [z]; exact hb)) (Nat.lt_irrefl _)
structure Turn (P : Program) (w : World) (K : PySem.W.Frag) (tg : Expr) (J : It) (fp : List Addr) (it : Addr) (tn : Nat → Heap → Prop) : Prop where
  mem : it ∈ fp
  obj : ∀ i h, tn i h → ∀ b ∈ fp, ∃ o, h.get? b = some o ∧ ∀ v, o.data ≠ .cell v
  keep : ∀ i h h', tn i h → (∀ b ∈ fp, ∀ o, h.get? b = some o → h'.get? b = some o) → tn i h'
  item : ∀ (X : Cx), X.prog = P → X.w = w → X.K = K → X.calm = true → ∀ (i : Nat) (pins : List (Addr × Obj)) (s : Shared) (σ : St) (H : Hp) (E : Value → Shared → Prop), Inv X pins σ H s → (∀ b ∈ fp, FpOk X pins H b) → tn i s.heap → J.go i H →
    wpAny (model P w) X.A (pyNext (.ref it)) (fun r s1 => ∃ u, r = some u ∧
      wpAny (model P w) X.A (letOwnedTupleGo tg (.ref it) u) (fun _ s2 => ∃ x H', Inv X pins σ H' s2 ∧ RelV x u ∧ J.yld i H x H' ∧ tn (i + 1) s2.heap ∧ ∀ b ∈ fp, H' b = none) E s1) E s
  done : ∀ (X : Cx), X.prog = P → X.w = w → X.K = K → X.calm = true → ∀ (i : Nat) (pins : List (Addr × Obj)) (s : Shared) (σ : St) (H : Hp) (E : Value → Shared → Prop), Inv X pins σ H s → (∀ b ∈ fp, FpOk X pins H b) → tn i s.heap → J.stop i H →
    wpAny (model P w) X.A (pyNext (.ref it)) (fun r s1 => r = none ∧ Inv X pins σ H s1) E s
  self : ∀ (A : Around) (i : Nat) (s : Shared) (Q : Value → Shared → Prop) (E : Value → Shared → Prop), tn i s.heap → Q (.ref it) s → wpAny (model P w) A (pyIter (.ref it)) Q E s
abbrev TI := St → Hp → (It → Hp → Prop) → Prop
def PIE (X : Cx) (pins : List (Addr × Obj)) (σ : St) (tg : Expr) (R : It → Hp → Prop) (itv : Value) (s2 : Shared) : Prop :=
  ∃ (it : Addr) (fp : List Addr) (tn : Nat → Heap → Prop) (J : It) (H' : Hp), itv = .ref it ∧ Inv X pins σ H' s2 ∧ Turn X.prog X.w X.K tg J fp it tn ∧ tn 0 s2.heap ∧ (∀ b ∈ fp, FpOk X pins H' b) ∧ R J H'
def PI (X : Cx) (tg iter : Expr) (wi : TI) : Prop :=
  ∀ (pins : List (Addr × Obj)) (s : Shared) (σ : St) (H : Hp) (R : It → Hp → Prop), Inv X pins σ H s → wi σ H R →
    wpAny (model X.prog X.w) X.A (eval iter X.env) (fun v s1 => wpAny (model X.prog X.w) X.A (pyIter v) (PIE X pins σ tg R) X.xe s1) X.xe s

theorem go_of {M : Model} {A : Around} {E : Value → Shared → Prop} {s : Shared} {tg : Expr} {it : Addr} {u : Value} {o : Obj} {n : String} {vs : Array Value} {Q : Unit → Shared → Prop} (ho : s.heap.get? it = some o) (hc : o.cls = .type n) (hd : o.data = .fields vs)
    (hn : ["enumerate", "zip", "dict_itemiterator", "dict_reverseitemiterator", "odict_iterator", "itertools.zip_longest", "itertools.pairwise"].contains n = false) (hQ : Q () s) : wpAny M A (letOwnedTupleGo tg (.ref it) u) Q E s := by
  unfold letOwnedTupleGo
  cases tg <;> first
    | exact wpAny_pure hQ
    | (cases u <;> first
        | exact wpAny_pure hQ
        | (refine wpAny_bind (wpAny_load ho ?_)
           rw [hc, hd]
           show wpAny M A (if (["enumerate", "zip", "dict_itemiterator", "dict_reverseitemiterator", "odict_iterator", "itertools.zip_longest", "itertools.pairwise"].contains n && vs[0]? == some (rawInt _)) = true then _ else _) Q E s
           rw [if_neg (by intro h; rw [hn, Bool.false_and] at h; cases h)]
           exact wpAny_pure hQ))

def Itl (K : PySem.W.Frag) (a : Addr) : It :=
  ⟨fun i H => ∃ xs x, SqL K H a xs ∧ xs[i]? = some x, fun i H x H' => H' = H ∧ ∀ xs, SqL K H a xs → xs[i]? = some x, fun i H => ∃ xs, SqL K H a xs ∧ xs.length ≤ i⟩
theorem turn_list {P : Program} {w : World} {K : PySem.W.Frag} {tg : Expr} (a it : Addr) : Turn P w K tg (Itl K a) [it] it (fun i h => h.IsListIter it a i) where
  mem := by simp
  obj := fun i h st b hb => by
    have e : b = it := by simpa using hb
    subst e
    obtain ⟨o, e, c, d⟩ := st
    exact ⟨o, e, fun v z => by rw [d] at z; cases z⟩
  keep := fun i h h' st k => st.at fun o e => k it (by simp) o e
  item := by
    intro X hP hw hK hc i pins s σ H E I hf st hg
    subst hP hw hK
    obtain ⟨xs, x, hq, hx⟩ := hg
    obtain ⟨its, rv, p, hz⟩ := I.list hq
    obtain ⟨u, hu, ru⟩ := rv.get hx
    obtain ⟨f0, f1, f2, f3, f4, f5⟩ := hf it (by simp)
    refine wpAny_pyNext_list_item st p.isList (x := u) (by simpa using hu) fun h' st' sb => ?_
    have I1 : Inv X pins σ H { s with heap := h' } := I.turned (t' := s.toks) (fun b o hb e => (sb.2 b hb).trans e) f0 f1 f3 f4 f5
    obtain ⟨o, e, c, d⟩ := id st'
    exact ⟨u, rfl, go_of (s := { s with heap := h' }) e c d (by decide) ⟨x, H, I1, ru, ⟨rfl, fun ys hy => by rw [I.list_inj hy hq]; exact hx⟩, st', fun b hb => (hf b hb).1⟩⟩
  done := by
    intro X hP hw hK hc i pins s σ H E I hf st hg
    subst hP hw hK
    obtain ⟨xs, hq, hx⟩ := hg
    obtain ⟨its, rv, p, hz⟩ := I.list hq
    obtain ⟨f0, f1, f2, f3, f4, f5⟩ := hf it (by simp)
    have hl := rv.length
    exact wpAny_pyNext_list_end (I.ok.hd hc) st p.isList (by simp; omega) fun h' eb => ⟨rfl, I.turned (t' := s.toks) (fun b o hb e => eb b o hb e) f0 f1 f3 f4 f5⟩
  self := fun _ _ _ _ _ st h => wpAny_pyIter_listiter st h
end L2

namespace L2
open PySem PySem.Spec PyProof.Rows
section
variable {X : Cx} {tg : Expr}
def iList (K : PySem.W.Frag) (tl : TE) : TI := fun σ H R => tl σ H fun x H1 => ∃ a, x = .ref a ∧ (∃ xs, SqL K H1 a xs) ∧ R (Itl K a) H1
theorem pi_list {l : Expr} {tl : TE} (hl : PE X l tl) : PI X tg l (iList X.K tl) := by
  intro pins s σ H R I h
  refine thn (hl pins s σ H _ I h) fun v s1 ⟨x, H1, I1, r1, q1⟩ => ?_
  obtain ⟨a, e, ⟨xs, hq⟩, q⟩ := q1
  subst e
  cases r1
  obtain ⟨its, rv, p, hz⟩ := I1.list hq
  refine wpAny_pyIter_list p.isList ?_
  refine ⟨s1.heap.objs.size, [s1.heap.objs.size], _, _, H1, rfl, I1.kept (t' := s1.toks) fun b o e => Heap.get?_push_of_some _ e, turn_list a _, ⟨_, Heap.get?_push_size _ rfl, rfl, rfl⟩, fun b hb => ?_, q⟩
  have e : b = s1.heap.objs.size := by simpa using hb
  subst e
  exact I1.fpOk (Nat.le_refl _) (I1.hok.fresh (Nat.le_refl _))
def tFor (wi : TI) (g : TG) (tb : TS) : TS := fun D σ H => wi σ H fun J H1 => ∃ W : Nat → Nat → St → Hp → Prop, (∃ m, W 0 m σ H1) ∧ ∀ i m σ H, W i m σ H →
  (J.stop i H ∧ D.nx σ H) ∨ (J.go i H ∧ ∃ N : St → Hp → Prop, (∀ σ' H', N σ' H' → ∃ m', m' < m ∧ W (i + 1) m' σ' H') ∧ ∀ x H', J.yld i H x H' → g x σ H' fun σ2 H2 => tb { D with nx := N, ct := N, bk := D.nx } σ2 H2)
def pinsAt (fp : List Addr) (h : Heap) : List (Addr × Obj) := fp.filterMap fun b => (h.get? b).map fun o => (b, o)
theorem mem_pinsAt {fp : List Addr} {h : Heap} {b : Addr} {o : Obj} (hb : b ∈ fp) (e : h.get? b = some o) : (b, o) ∈ pinsAt fp h := List.mem_filterMap.mpr ⟨b, hb, by rw [e]; rfl⟩
theorem of_pinsAt {fp : List Addr} {h : Heap} {p : Addr × Obj} (hp : p ∈ pinsAt fp h) : p.1 ∈ fp ∧ h.get? p.1 = some p.2 := by
  obtain ⟨b, hb, e⟩ := List.mem_filterMap.mp hp
  cases q : h.get? b with
  | none => rw [q] at e; cases e
  | some o =>
    rw [q] at e
    have e' : (b, o) = p := Option.some.inj e
    subst e'
    exact ⟨hb, q⟩
theorem Inv.pinned {pins : List (Addr × Obj)} {σ : St} {H : Hp} {s : Shared} {fp : List Addr} (I : Inv X pins σ H s) (hf : ∀ b ∈ fp, FpOk X pins H b) (ho : ∀ b ∈ fp, ∃ o, s.heap.get? b = some o ∧ ∀ v, o.data ≠ .cell v) : Inv X (pins ++ pinsAt fp s.heap) σ H s :=
  I.pins_of fun p hp => (List.mem_append.mp hp).elim (fun z => I.pin p (List.mem_append_right _ z)) fun z => by
    obtain ⟨hb, e⟩ := of_pinsAt z
    obtain ⟨f0, f1, f2, _⟩ := hf p.1 hb
    obtain ⟨o, e', d⟩ := ho p.1 hb
    rw [e] at e'; cases e'
    exact ⟨e, f0, f1, f2, d⟩
theorem Inv.unpinned {pins pl : List (Addr × Obj)} {σ : St} {H : Hp} {s : Shared} (I : Inv X (pins ++ pl) σ H s) : Inv X pins σ H s := I.pins_of fun p hp => I.pin p (List.mem_append_right _ (List.mem_append_left _ hp))
theorem ps_for {iter : Expr} {body : List Stmt} {wi : TI} {g : TG} {tb : TS} {pos : Pos} (hp : PassesOwn (model X.prog X.w) X.A X.env X.xe) (hc : X.calm = true) (hi : PI X tg iter wi) (hg : PG X tg g) (hb : PSs X body tb)
    (hs : ∀ x, foldedSetIterable iter X.env x = pure x := by intro _; rfl) : PS X (.For tg iter body [] pos) (tFor wi g tb) := by
  intro pins s σ H D I h
  refine wpAny_For (thn (hi pins s σ H _ I h) fun v s1 h1 => thn h1 fun itv s2 h2 => ?_) hs
  obtain ⟨it, fp, tn, J, H2, e, I2, T, st2, f2, W, ⟨m0, w0⟩, turn⟩ := h2
  subst e
  -- what stays true of the iterator's objects through the loop
  have stat : ∀ {H' : Hp}, (∀ b ∈ fp, H' b = none) → ∀ b ∈ fp, FpOk X pins H' b := fun hn b hb => ⟨hn b hb, (f2 b hb).2⟩
  refine codeAny_forLoop_any (fun n s' => ∃ i σ' H', Inv X pins σ' H' s' ∧ tn i s'.heap ∧ (∀ b ∈ fp, H' b = none) ∧ W i n σ' H') ?_ m0 ⟨0, σ, H2, I2, st2, fun b hb => (f2 b hb).1, w0⟩
  rintro n s3 ⟨i, σ3, H3, I3, st3, fr3, w3⟩
  rcases turn i n σ3 H3 w3 with ⟨stop, qn⟩ | ⟨go, N, hN, step⟩
  · refine wpAny_passesOwn hp (thn (T.done X rfl rfl rfl hc i pins s3 σ3 H3 X.xe I3 (stat fr3) st3 stop) fun r s4 ⟨hr, I4⟩ => ?_)
    subst hr
    exact wpAny_execs_nil ⟨σ3, H3, I4, qn⟩
  · refine wpAny_passesOwn hp (thn (T.item X rfl rfl rfl hc i pins s3 σ3 H3 X.xe I3 (stat fr3) st3 go) fun r s4 ⟨u, hr, h4⟩ => ?_)
    subst hr
    refine wpAny_passesOwn hp (thn h4 fun _ s5 ⟨x, H5, I5, r5, y5, st5, fr5⟩ => ?_)
    have I5' := I5.pinned (stat fr5) (T.obj _ _ st5)
    refine wpAny_passesOwn hp (thn (hg _ s5 σ3 H5 x u _ I5' r5 (step x H5 y5)) fun _ s6 ⟨σ6, H6, I6, q6⟩ => ?_)
    refine wpAny_passesOwn hp (thn (hb _ s6 σ6 H6 _ I6 q6) fun f s7 q7 => ?_)
    have again : ∀ {σ7 : St} {H7 : Hp}, Inv X (pins ++ pinsAt fp s5.heap) σ7 H7 s7 → N σ7 H7 → ∃ m, m < n ∧ ∃ i σ' H', Inv X pins σ' H' s7 ∧ tn i s7.heap ∧ (∀ b ∈ fp, H' b = none) ∧ W i m σ' H' := fun {σ7 H7} I7 n7 => by
      obtain ⟨m', hm, w7⟩ := hN σ7 H7 n7
      refine ⟨m', hm, i + 1, σ7, H7, I7.unpinned, T.keep _ _ _ st5 fun b hb o e => (I7.pin (b, o) (List.mem_append_right _ (List.mem_append_right _ (mem_pinsAt hb e)))).1, fun b hb => ?_, w7⟩
      obtain ⟨o, e, d⟩ := T.obj _ _ st5 b hb
      exact (I7.pin (b, o) (List.mem_append_right _ (List.mem_append_right _ (mem_pinsAt hb e)))).2.1
    cases f with
    | next => obtain ⟨σ7, H7, I7, n7⟩ := q7; exact again I7 n7
    | cont => obtain ⟨σ7, H7, I7, n7⟩ := q7; exact again I7 n7
    | brk => obtain ⟨σ7, H7, I7, q7⟩ := q7; exact ⟨σ7, H7, I7.unpinned, q7⟩
    | ret v => obtain ⟨x7, σ7, H7, I7, r7, q7⟩ := q7; exact ⟨x7, σ7, H7, I7.unpinned, r7, q7⟩
end

theorem for_list {K : PySem.W.Frag} {a : Addr} {xs : List V} {g : TG} {tb : TS} {D : Ends} {σ : St} {H : Hp} (Pv : Nat → St → Hp → Prop) (h0 : Pv 0 σ H) (hl : ∀ i σ H, i ≤ xs.length → Pv i σ H → SqL K H a xs)
    (hs : ∀ i x σ H, xs[i]? = some x → Pv i σ H → g x σ H fun σ2 H2 => tb { D with nx := Pv (i + 1), ct := Pv (i + 1), bk := D.nx } σ2 H2) (hd : ∀ σ H, Pv xs.length σ H → D.nx σ H) :
    ∃ W : Nat → Nat → St → Hp → Prop, (∃ m, W 0 m σ H) ∧ ∀ i m σ H, W i m σ H →
      ((Itl K a).stop i H ∧ D.nx σ H) ∨ ((Itl K a).go i H ∧ ∃ N : St → Hp → Prop, (∀ σ' H', N σ' H' → ∃ m', m' < m ∧ W (i + 1) m' σ' H') ∧ ∀ x H', (Itl K a).yld i H x H' → g x σ H' fun σ2 H2 => tb { D with nx := N, ct := N, bk := D.nx } σ2 H2) := by
  refine ⟨fun i m σ H => m = xs.length - i ∧ i ≤ xs.length ∧ Pv i σ H, ⟨xs.length, by simp, Nat.zero_le _, h0⟩, ?_⟩
  rintro i m σ H ⟨rfl, hi, p⟩
  have q := hl i σ H hi p
  by_cases hlt : i < xs.length
  · refine .inr ⟨⟨xs, xs[i], q, by simp [hlt]⟩, Pv (i + 1), fun σ' H' p' => ⟨xs.length - (i + 1), by omega, rfl, hlt, p'⟩, fun x H' y => ?_⟩
    obtain ⟨e, y⟩ := y
    subst e
    exact hs i x σ _ (y xs q) p
  · have e : i = xs.length := by omega
    subst e
    exact .inl ⟨⟨xs, q, Nat.le_refl _⟩, hd σ H p⟩
end L2

namespace L2
open PySem PySem.Spec PyProof.Rows

abbrev R2 := V → V → Hp → VK → Prop
def OpR (X : Cx) (f : Value → Value → Sem Value) (r : R2) : Prop :=
  ∀ (pins : List (Addr × Obj)) (s : Shared) (σ : St) (H : Hp) (x y : V) (v u : Value) (Q : VK), Inv X pins σ H s → RelV x v → RelV y u → r x y H Q →
    wpAny (model X.prog X.w) X.A (f v u) (EP X pins σ Q) X.xe s
def UnR (X : Cx) (f : Value → Sem Value) (r : V → Hp → VK → Prop) : Prop :=
  ∀ (pins : List (Addr × Obj)) (s : Shared) (σ : St) (H : Hp) (x : V) (v : Value) (Q : VK), Inv X pins σ H s → RelV x v → r x H Q →
    wpAny (model X.prog X.w) X.A (f v) (EP X pins σ Q) X.xe s
def CallR (X : Cx) (f : Value) (r : List V → Hp → VK → Prop) : Prop :=
  ∀ (pins : List (Addr × Obj)) (s : Shared) (σ : St) (H : Hp) (xs : List V) (us : List Value) (Q : VK), Inv X pins σ H s → Vals xs us → r xs H Q →
    wpAny (model X.prog X.w) X.A (call f us) (EP X pins σ Q) X.xe s
def tOp (r : R2) (ta tb : TE) : TE := fun σ H Q => ta σ H fun x H1 => tb σ H1 fun y H2 => r x y H2 Q
def tUn (r : V → Hp → VK → Prop) (ta : TE) : TE := fun σ H Q => ta σ H fun x H1 => r x H1 Q
def rI (C : Int → Int → Prop) (g : Int → Int → V) : R2 := fun x y H Q => ∃ i j, x = .int i ∧ y = .int j ∧ C i j ∧ Q (g i j) H
def rI0 (g : Int → Int → V) : R2 := fun x y H Q => ∃ i j, x = .int i ∧ y = .int j ∧ Q (g i j) H
def rU (g : Int → V) : V → Hp → VK → Prop := fun x H Q => ∃ i, x = .int i ∧ Q (g i) H

section
variable {X : Cx} {a b c : Expr} {ta tb tc : TE} {pos : Pos}

theorem binT (ha : PE X a ta) (hb : PE X b tb) {pins : List (Addr × Obj)} {s : Shared} {σ : St} {H : Hp} {R : V → V → Hp → Prop} (I : Inv X pins σ H s)
    (h : ta σ H fun x H1 => tb σ H1 fun y H2 => R x y H2) {Q : Value → Shared → Prop} {f : Value → Value → Sem Value}
    (hf : ∀ v u s2 x y H2, Inv X pins σ H2 s2 → RelV x v → RelV y u → R x y H2 → wpAny (model X.prog X.w) X.A (f v u) Q X.xe s2) :
    wpAny (model X.prog X.w) X.A (eval a X.env) (fun v s₁ => wpAny (model X.prog X.w) X.A (eval b X.env) (fun u s₂ => wpAny (model X.prog X.w) X.A (f v u) Q X.xe s₂) X.xe s₁) X.xe s := by
  refine thn (ha pins s σ H _ I h) fun v s1 ⟨x, H1, I1, r1, q1⟩ => ?_
  refine thn (hb pins s1 σ H1 _ I1 q1) fun u s2 ⟨y, H2, I2, r2, q2⟩ => ?_
  exact hf v u s2 x y H2 I2 r1 r2 q2

theorem pe_op {op : Operator} {r : R2} (ho : OpR X (binaryOp op) r) (ha : PE X a ta) (hb : PE X b tb) : PE X (.BinOp a op b pos) (tOp r ta tb) := by
  intro pins s σ H Q I h
  exact wpAny_BinOp (binT ha hb I h fun v u s2 x y H2 I2 rx ry q => ho pins s2 σ H2 x y v u Q I2 rx ry q)
theorem pe_un {op : UnaryOp} {r : V → Hp → VK → Prop} (ho : UnR X (unaryOp op) r) (ha : PE X a ta) : PE X (.UnaryOp op a pos) (tUn r ta) := by
  intro pins s σ H Q I h
  exact UnaryOp_ (thn (ha pins s σ H _ I h) fun v s1 ⟨x, H1, I1, r1, q1⟩ => ho pins s1 σ H1 x v Q I1 r1 q1)
theorem opI {f : Value → Value → Sem Value} {C : Int → Int → Prop} {g : Int → Int → Int}
    (rule : ∀ (i j : Int) (t u : Tok) (s : Shared) (Q : Value → Shared → Prop) (E : Value → Shared → Prop), C i j → Q (.int (g i j) s.toks) { s with toks := s.toks + 1 } → wpAny (model X.prog X.w) X.A (f (.int i t) (.int j u)) Q E s) :
    OpR X f (rI C fun i j => .int (g i j)) := by
  intro pins s σ H x y v u Q I rx ry h
  obtain ⟨i, j, rfl, rfl, hc, q⟩ := h
  obtain ⟨t, rfl⟩ := rx
  obtain ⟨t', rfl⟩ := ry
  exact rule i j t t' s _ _ hc ⟨.int (g i j), H, I.tok _, ⟨_, rfl⟩, q⟩
theorem opI0 {f : Value → Value → Sem Value} {g : Int → Int → Int}
    (rule : ∀ (i j : Int) (t u : Tok) (s : Shared) (Q : Value → Shared → Prop) (E : Value → Shared → Prop), Q (.int (g i j) s.toks) { s with toks := s.toks + 1 } → wpAny (model X.prog X.w) X.A (f (.int i t) (.int j u)) Q E s) :
    OpR X f (rI0 fun i j => .int (g i j)) := by
  intro pins s σ H x y v u Q I rx ry h
  obtain ⟨i, j, rfl, rfl, q⟩ := h
  obtain ⟨t, rfl⟩ := rx
  obtain ⟨t', rfl⟩ := ry
  exact rule i j t t' s _ _ ⟨.int (g i j), H, I.tok _, ⟨_, rfl⟩, q⟩
theorem opB0 {f : Value → Value → Sem Value} {g : Int → Int → Bool}
    (rule : ∀ (i j : Int) (t u : Tok) (s : Shared) (Q : Value → Shared → Prop) (E : Value → Shared → Prop), Q (.bool (g i j)) s → wpAny (model X.prog X.w) X.A (f (.int i t) (.int j u)) Q E s) :
    OpR X f (rI0 fun i j => .bl (g i j)) := by
  intro pins s σ H x y v u Q I rx ry h
  obtain ⟨i, j, rfl, rfl, q⟩ := h
  obtain ⟨t, rfl⟩ := rx
  obtain ⟨t', rfl⟩ := ry
  exact rule i j t t' s _ _ ⟨.bl (g i j), H, I, rfl, q⟩

def CDiv (i j : Int) : Prop := 0 < j ∧ j < 1073741824
def CMul (i j : Int) : Prop := (-(2 ^ 64) < i ∧ i < 2 ^ 64) ∨ (-(2 ^ 64) < j ∧ j < 2 ^ 64)
theorem CMul.ok {i j : Int} (h : CMul i j) : IntMulOk i j := by
  rcases h with ⟨h1, h2⟩ | ⟨h1, h2⟩
  · exact .of_left (intBits_le_64 h1 h2)
  · exact .of_right (intBits_le_64 h1 h2)
theorem op_add : OpR X (binaryOp .Add) (rI0 fun i j => .int (i + j)) := opI0 fun _ _ _ _ _ _ _ q => add_int q
theorem op_sub : OpR X (binaryOp .Sub) (rI0 fun i j => .int (i - j)) := opI0 fun _ _ _ _ _ _ _ q => sub_int q
theorem op_fdiv : OpR X (binaryOp .FloorDiv) (rI CDiv fun i j => .int (i / j)) := opI fun i j _ _ _ _ _ hc q => by
  have h1 : (0 : Int) < j := hc.1
  have h2 : j < 1073741824 := hc.2
  exact floordiv_int (by omega) (by rw [Int.fdiv_eq_ediv_of_nonneg i (by omega)]; exact q) (.inl (PyProof.noPylong_small (by omega)))
theorem op_mod : OpR X (binaryOp .Mod) (rI (fun _ j => 0 < j) fun i j => .int (i % j)) := opI fun i j _ _ _ _ _ hc q => by
  have h1 : (0 : Int) < j := hc
  exact mod_int' (by omega) (by rw [Int.fmod_eq_emod_of_nonneg i (by omega)]; exact q)
theorem unI {f : Value → Sem Value} {g : Int → Int}
    (rule : ∀ (i : Int) (t : Tok) (s : Shared) (Q : Value → Shared → Prop) (E : Value → Shared → Prop), Q (.int (g i) s.toks) { s with toks := s.toks + 1 } → wpAny (model X.prog X.w) X.A (f (.int i t)) Q E s) :
    UnR X f (rU fun i => .int (g i)) := by
  intro pins s σ H x v Q I rx h
  obtain ⟨i, rfl, q⟩ := h
  obtain ⟨t, rfl⟩ := rx
  exact rule i t s _ _ ⟨.int (g i), H, I.tok _, ⟨_, rfl⟩, q⟩
theorem un_neg : UnR X (unaryOp .USub) (rU fun i => .int (-i)) := unI fun _ _ _ _ _ q => neg_int q
end

def scal : V → V → Bool
  | .non, .non => true | .non, .int _ => true | .int _, .non => true | .non, .bl _ => true | .bl _, .non => true | .non, .str _ => true | .str _, .non => true
  | .int _, .int _ => true | .bl _, .bl _ => true | .str _, .str _ => true | .byt _, .byt _ => true
  | .int _, .str _ => true | .str _, .int _ => true | .bl _, .str _ => true | .str _, .bl _ => true
  | _, _ => false
def rEq : R2 := fun x y H Q => scal x y = true ∧ Q (.bl (decide (x = y))) H
def rNe : R2 := fun x y H Q => scal x y = true ∧ Q (.bl (!decide (x = y))) H

theorem dec_int {i j : Int} : decide (V.int i = V.int j) = (i == j) := by
  rw [Bool.eq_iff_iff]
  simp
theorem dec_bl {i j : Bool} : decide (V.bl i = V.bl j) = (i == j) := by
  rw [Bool.eq_iff_iff]
  simp
theorem dec_str {i j : Str} : decide (V.str i = V.str j) = (i == j) := by
  rw [Bool.eq_iff_iff]
  simp
theorem dec_byt {i j : Array UInt8} : decide (V.byt i = V.byt j) = (i.toList == j.toList) := by
  rw [Bool.eq_iff_iff]
  cases i
  cases j
  simp

section
variable {X : Cx} {a b c : Expr} {ta tb tc : TE} {pos : Pos}
theorem fin_bl {pins : List (Addr × Obj)} {σ : St} {H : Hp} {s : Shared} {Q : VK} {k k' : Bool} (I : Inv X pins σ H s) (q : Q (.bl k) H) (e : k = k') : EP X pins σ Q (.bool k') s := by
  subst e
  exact ⟨.bl k, H, I, rfl, q⟩
theorem op_eq : OpR X (compareOp .Eq) rEq := by
  intro pins s σ H x y v u Q I rx ry h
  obtain ⟨hs, q⟩ := h
  cases x with
  | non =>
    cases rx
    cases y with
    | non => cases ry; exact PySem.EqNone.eq_none_none (fin_bl I q (by simp))
    | bl j => cases ry; exact PySem.EqNone.eq_none_bool (fin_bl I q (by simp))
    | int j => obtain ⟨t', rfl⟩ := ry; exact PySem.EqNone.eq_none_int (fin_bl I q (by simp))
    | str j => obtain ⟨t', rfl⟩ := ry; exact PySem.EqNone.eq_none_str (fin_bl I q (by simp))
    | _ => exact absurd (show false = true from hs) Bool.false_ne_true
  | bl i =>
    cases rx
    cases y with
    | non => cases ry; exact PySem.EqNone.eq_bool_none (fin_bl I q (by simp))
    | bl j => cases ry; exact eq_bool (fin_bl I q dec_bl)
    | str j => obtain ⟨t', rfl⟩ := ry; exact PySem.EqMixed.eq_bool_str (fin_bl I q (by simp))
    | _ => exact absurd (show false = true from hs) Bool.false_ne_true
  | int i =>
    obtain ⟨t, rfl⟩ := rx
    cases y with
    | non => cases ry; exact PySem.EqNone.eq_int_none (fin_bl I q (by simp))
    | int j => obtain ⟨t', rfl⟩ := ry; exact eq_int (fin_bl I q dec_int)
    | str j => obtain ⟨t', rfl⟩ := ry; exact PySem.EqMixed.eq_int_str (fin_bl I q (by simp))
    | _ => exact absurd (show false = true from hs) Bool.false_ne_true
  | str i =>
    obtain ⟨t, rfl⟩ := rx
    cases y with
    | non => cases ry; exact PySem.EqNone.eq_str_none (fin_bl I q (by simp))
    | bl j => cases ry; exact PySem.EqMixed.eq_str_bool (fin_bl I q (by simp))
    | int j => obtain ⟨t', rfl⟩ := ry; exact PySem.EqMixed.eq_str_int (fin_bl I q (by simp))
    | str j => obtain ⟨t', rfl⟩ := ry; exact eq_str (fin_bl I q dec_str)
    | _ => exact absurd (show false = true from hs) Bool.false_ne_true
  | byt i =>
    obtain ⟨t, rfl⟩ := rx
    cases y with
    | byt j => obtain ⟨t', rfl⟩ := ry; exact PySem.W.eq_bytes (fin_bl I q dec_byt)
    | _ => exact absurd (show false = true from hs) Bool.false_ne_true
  | _ => cases y <;> exact absurd (show false = true from hs) Bool.false_ne_true
theorem op_ne : OpR X (compareOp .NotEq) rNe := by
  intro pins s σ H x y v u Q I rx ry h
  obtain ⟨hs, q⟩ := h
  cases x with
  | non =>
    cases rx
    cases y with
    | non => cases ry; exact PySem.EqNone.ne_none_none (fin_bl I q (by simp))
    | bl j => cases ry; exact PySem.EqNone.ne_none_bool (fin_bl I q (by simp))
    | int j => obtain ⟨t', rfl⟩ := ry; exact PySem.EqNone.ne_none_int (fin_bl I q (by simp))
    | str j => obtain ⟨t', rfl⟩ := ry; exact PySem.EqNone.ne_none_str (fin_bl I q (by simp))
    | _ => exact absurd (show false = true from hs) Bool.false_ne_true
  | bl i =>
    cases rx
    cases y with
    | non => cases ry; exact PySem.EqNone.ne_bool_none (fin_bl I q (by simp))
    | bl j => cases ry; exact ne_bool (fin_bl I q (congrArg not dec_bl))
    | str j => obtain ⟨t', rfl⟩ := ry; exact PySem.EqMixed.ne_bool_str (fin_bl I q (by simp))
    | _ => exact absurd (show false = true from hs) Bool.false_ne_true
  | int i =>
    obtain ⟨t, rfl⟩ := rx
    cases y with
    | non => cases ry; exact PySem.EqNone.ne_int_none (fin_bl I q (by simp))
    | int j => obtain ⟨t', rfl⟩ := ry; exact ne_int (fin_bl I q (congrArg not dec_int))
    | str j => obtain ⟨t', rfl⟩ := ry; exact PySem.EqMixed.ne_int_str (fin_bl I q (by simp))
    | _ => exact absurd (show false = true from hs) Bool.false_ne_true
  | str i =>
    obtain ⟨t, rfl⟩ := rx
    cases y with
    | non => cases ry; exact PySem.EqNone.ne_str_none (fin_bl I q (by simp))
    | bl j => cases ry; exact PySem.EqMixed.ne_str_bool (fin_bl I q (by simp))
    | int j => obtain ⟨t', rfl⟩ := ry; exact PySem.EqMixed.ne_str_int (fin_bl I q (by simp))
    | str j => obtain ⟨t', rfl⟩ := ry; exact ne_str (fin_bl I q (congrArg not dec_str))
    | _ => exact absurd (show false = true from hs) Bool.false_ne_true
  | byt i =>
    obtain ⟨t, rfl⟩ := rx
    cases y with
    | byt j => obtain ⟨t', rfl⟩ := ry; exact PySem.W.ne_bytes (fin_bl I q (congrArg not dec_byt))
    | _ => exact absurd (show false = true from hs) Bool.false_ne_true
  | _ => cases y <;> exact absurd (show false = true from hs) Bool.false_ne_true

theorem op_lt : OpR X (compareOp .Lt) (rI0 fun i j => .bl (decide (i < j))) := opB0 fun _ _ _ _ _ _ _ q => lt_int q
theorem op_le : OpR X (compareOp .LtE) (rI0 fun i j => .bl (decide (i ≤ j))) := opB0 fun _ _ _ _ _ _ _ q => le_int q
theorem op_gt : OpR X (compareOp .Gt) (rI0 fun i j => .bl (decide (j < i))) := opB0 fun _ _ _ _ _ _ _ q => gt_int q
theorem op_isN : OpR X (compareOp .Is) (fun x y H Q => y = .non ∧ Q (.bl (decide (x = .non))) H) := by
  intro pins s σ H x y v u Q I rx ry h
  obtain ⟨rfl, q⟩ := h
  cases ry
  refine is_none_gen (fin_bl I q ?_)
  cases x <;> first
    | (cases rx; rfl)
    | (obtain ⟨t, rfl⟩ := rx; rfl)
theorem op_notin_str : OpR X (compareOp .NotIn) (fun x y H Q => ∃ i j, x = .str i ∧ y = .str j ∧ Q (.bl (!(!(Builtin.Str.occurrences j i 0 j.length 1).isEmpty))) H) := by
  intro pins s σ H x y v u Q I rx ry h
  obtain ⟨i, j, rfl, rfl, q⟩ := h
  obtain ⟨t, rfl⟩ := rx
  obtain ⟨t', rfl⟩ := ry
  exact notIn_str (fin_bl I q rfl)
theorem nomark (b : Expr) {op : CmpOp} (h : op ≠ .In := by decide) (h2 : op ≠ .NotIn := by decide) : behindInMarks op b = false := by
  have e1 : (op == CmpOp.In) = false := by cases op <;> first | rfl | exact absurd rfl h
  have e2 : (op == CmpOp.NotIn) = false := by cases op <;> first | rfl | exact absurd rfl h2
  cases b <;> simp [behindInMarks, e1, e2]
theorem pe_cmpR {op : CmpOp} {r : R2} (ho : OpR X (compareOp op) r) (ha : PE X a ta) (hb : PE X b tb) (hm : behindInMarks op b = false) : PE X (.Compare a [op] [b] pos) (tOp r ta tb) := by
  intro pins s σ H Q I h
  exact wpAny_Compare1 (binT ha hb I h fun v u s2 x y H2 I2 rx ry q => ho pins s2 σ H2 x y v u Q I2 rx ry q) hm
def tTest (t : TE) : TT := fun σ H Q => t σ H fun x H' => ∃ k, x = .bl k ∧ Q k H'
theorem pt_cmpR {op : CmpOp} {r : R2} (ho : OpR X (compareOp op) r) (ha : PE X a ta) (hb : PE X b tb) (hm : behindInMarks op b = false) : PT X (.Compare a [op] [b] pos) (tTest (tOp r ta tb)) := by
  intro pins s σ H Q I h
  refine wpAny_isTrue_Compare1 (thn (ha pins s σ H _ I h) fun v s1 ⟨x, H1, I1, r1, q1⟩ => thn (hb pins s1 σ H1 _ I1 q1) fun u s2 ⟨y, H2, I2, r2, q2⟩ =>
    thn (ho pins s2 σ H2 x y v u _ I2 r1 r2 q2) fun c s3 ⟨z, H3, I3, r3, k, e, q3⟩ => ?_) hm
  subst e
  cases r3
  exact wpAny_truthy_bool ⟨H3, I3, q3⟩
def tChain (r r' : R2) (ta tb tc : TE) : TE := fun σ H Q => ta σ H fun x H1 => tb σ H1 fun y H2 => r x y H2 fun z H3 => ∃ k, z = .bl k ∧
  (if k = true then tc σ H3 fun w' H4 => r' y w' H4 Q else Q (.bl false) H3)
theorem pe_chain {op op' : CmpOp} {r r' : R2} (ho : OpR X (compareOp op) r) (ho' : OpR X (compareOp op') r') (ha : PE X a ta) (hb : PE X b tb) (hc : PE X c tc)
    (hm : lastMarks [op, op'] [b, c] = false := by with_unfolding_all rfl) : PE X (.Compare a [op, op'] [b, c] pos) (tChain r r' ta tb tc) := by
  intro pins s σ H Q I h
  refine Compare_chain (thn (ha pins s σ H _ I h) fun v s1 ⟨x, H1, I1, r1, q1⟩ => chain_link (thn (hb pins s1 σ H1 _ I1 q1) fun u s2 ⟨y, H2, I2, r2, q2⟩ =>
    thn (ho pins s2 σ H2 x y v u _ I2 r1 r2 q2) fun d s3 ⟨z, H3, I3, r3, k, e, q3⟩ => ?_)) hm
  subst e
  cases r3
  refine wpAny_truthy_bool ?_
  cases k with
  | false => exact ite_ff ⟨.bl false, H3, I3, rfl, q3⟩
  | true => exact ite_tt (chain_last (thn (hc pins s3 σ H3 _ I3 q3) fun w' s4 ⟨z', H4, I4, r4, q4⟩ => ho' pins s4 σ H4 y z' u w' Q I4 r2 r4 q4))
theorem line63 : (sizeLine : Nat) < 2 ^ 63 := by rw [sizeLine_eq]; decide
theorem op_add_str : OpR X (binaryOp .Add) (fun x y H Q => ∃ i j, x = .str i ∧ y = .str j ∧ i.length + j.length ≤ sizeLine ∧ Q (.str (i ++ j)) H) := by
  intro pins s σ H x y v u Q I rx ry h
  obtain ⟨i, j, rfl, rfl, hz, q⟩ := h
  obtain ⟨t, rfl⟩ := rx
  obtain ⟨t', rfl⟩ := ry
  exact add_str (fun t' tk => ⟨.str (i ++ j), H, I.tok _, ⟨_, rfl⟩, q⟩) hz
theorem vals1 {x : V} {us : List Value} (r : Vals [x] us) : ∃ u, us = [u] ∧ RelV x u := by
  cases r with
  | cons r1 r2 => cases r2; exact ⟨_, rfl, r1⟩
theorem vals2 {x y : V} {us : List Value} (r : Vals [x, y] us) : ∃ u w', us = [u, w'] ∧ RelV x u ∧ RelV y w' := by
  cases r with
  | cons r1 r2 =>
    cases r2 with
    | cons r3 r4 => cases r4; exact ⟨_, _, rfl, r1, r3⟩
end
end L2

namespace L2
open PySem PySem.Spec PyProof.Rows

structure ObjM (h : Heap) (x dx C : Addr) (mA : Str → Option Value) : Prop where
  obj : h.get? x = some (PySem.W.instObj C dx)
  ns : h.Ns1 dx mA
  ne : dx ≠ x

theorem lookIn_ns {h : Heap} {dx : Addr} {mA : Str → Option Value} (n : h.Ns1 dx mA) : ∃ od, h.get? dx = some od ∧ ∀ name, PySem.W.lookIn name od = some (mA name) := by
  obtain ⟨o, es, ep, ho, hd, hk, _, hm⟩ := n
  refine ⟨o, ho, fun name => ?_⟩
  have e := hm name
  unfold nsFind findBy at e
  rw [← Array.find?_toList] at e
  unfold PySem.W.lookIn
  rw [hd]
  dsimp only
  split
  · rename_i y q
    rw [q] at e
    exact congrArg some e
  · rename_i q
    rw [q] at e
    have a : es.toList.any (·.refKey) = false := by
      rw [List.any_eq_false]
      intro y hy
      obtain ⟨z, t, hkey⟩ := hk y (Array.mem_toList_iff.mp hy)
      simp [DictEntry.refKey, hkey]
    have a' : ¬ es.toList.any (·.refKey) = true := by rw [a]; exact Bool.false_ne_true
    rw [if_neg a']
    exact congrArg some e

theorem ObjM.look {h : Heap} {x dx C : Addr} {mA : Str → Option Value} (I : ObjM h x dx C mA) : ∃ od, PySem.W.InstAt h x (PySem.W.instObj C dx) C (some od) ∧ ∀ name, PySem.W.lookIn name od = some (mA name) :=
  let ⟨od, ho, hl⟩ := lookIn_ns I.ns
  ⟨od, ⟨I.obj, rfl, rfl, ho⟩, hl⟩

section
variable {prog : Program} {w : World} {A : Around} {E : Value → Shared → Prop} {s : Shared} {K : PySem.W.Frag} {x dx C f : Addr} {mA : Str → Option Value} {name : Str} {v : Value}

end

section
variable {P : Program} {w : World} {H H' : Hp} {h h' : Heap} {a C dx : Addr} {fs fs' : List (Str × V)}
theorem ins_get (hok : HOk P w H h) (e : H a = some (.ins C dx fs)) : ∃ mA, ObjM h a dx C mA ∧ (∀ f, RelO (fs.lookup f) (mA f)) ∧ PySem.Within mA (fs.map (·.1)) ∧ fs.length ≤ 1000 ∧ H dx = some (.own a) := by
  obtain ⟨d, z, ne, ob, mA, n, r, q⟩ := (show ObjOk P w H h a (.ins C dx fs) from hok a _ e)
  exact ⟨mA, ⟨ob, n, ne⟩, r, q, z, d⟩
end

structure Cls (K : PySem.W.Frag) (C : Addr) : Prop where
  pg : PySem.W.plainGet K C Str.empty = true
  hd : PySem.W.hasDictIn K C = true
  po : PySem.W.plainOver K C = true
  sa : PySem.W.findIn K (.ref C) "__setattr__" = some (some (.builtin "object.__setattr__"))
theorem Cls.get {K : PySem.W.Frag} {C : Addr} (c : Cls K C) (f : Str) : PySem.W.plainGet K C f = true := c.pg
structure Con (K : PySem.W.Frag) (C : Addr) (f : Str) (v : V) (u : Value) : Prop where
  at_ : PySem.W.findIn K (.ref C) f = some (some u)
  rel : RelV v u
  get : PySem.W.specialIn K u "__get__" = some none
  cp : PySem.W.copiedNames.contains f = false
structure Meth (K : PySem.W.Frag) (C : Addr) (m : Str) (f : Addr) : Prop where
  at_ : PySem.W.findIn K (.ref C) m = some (some (.ref f))
  fn : PySem.W.isFn K (.ref f) = true
  kp : PySem.W.keepIn K (.ref f) = true

section
variable {X : Cx} {pins : List (Addr × Obj)} {σ : St} {H : Hp} {s : Shared} {a C dx : Addr} {fs : List (Str × V)} {f : Str} {v : V} {A : Around} {E : Value → Shared → Prop}

end

section
variable {X : Cx} {o e value : Expr} {f : Str} {pos pos' tpos : Pos} {ta tv : TE}
end

section
variable {X : Cx} {pins : List (Addr × Obj)} {σ : St} {H : Hp} {s : Shared} {A : Around} {E : Value → Shared → Prop} {Q : Value → Shared → Prop} {c : Value} {b : Bool}
inductive TyOf (K : PySem.W.Frag) (H : Hp) : V → Value → Prop where
  | non : TyOf K H .non (.type "NoneType")
  | bl (x : Bool) : TyOf K H (.bl x) (.type "bool")
  | int (i : Int) : TyOf K H (.int i) (.type "int")
  | str (x : Str) : TyOf K H (.str x) (.type "str")
  | flt (x : UInt64) : TyOf K H (.flt x) (.type "float")
  | lst {a : Addr} {xs : List V} (e : H a = some (.lst xs)) : TyOf K H (.ref a) (.type "list")
  | frz {a : Addr} {o : Obj} {xs : List V} (e : H a = some (.frz o (.lst xs))) : TyOf K H (.ref a) (.type "list")
  | tup {a : Addr} {xs : List V} (e : H a = some (.tup xs)) : TyOf K H (.ref a) (.type "tuple")
  | dK {a : Addr} {kvs : List (Key × V)} (e : H a = some (.dK kvs)) : TyOf K H (.ref a) (.type "dict")
  | dT {a : Addr} {kvs : List (List Key × V)} (e : H a = some (.dT kvs)) : TyOf K H (.ref a) (.type "dict")
  | ins {a C dx : Addr} {fs : List (Str × V)} (e : H a = some (.ins C dx fs)) (cl : Cls K C) (ha : PySem.W.findIn K (.ref C) "__class__" = some (some (.builtin "object.__class__")))
      (hn : PySem.W.specialIn K (.builtin "object.__class__") "__get__" = some (some (.builtin "getset_descriptor.__get__"))) (htk : PySem.W.takesIn K (.builtin "object.__class__") = some true)
      (hm : PySem.W.mroIn K C (.type "object") = some true) : TyOf K H (.ref a) (.ref C)
theorem isinst_ok {x : V} {u t : Value} (I : Inv X pins σ H s) (rx : RelV x u) (ty : TyOf X.K H x t) (e : PySem.W.kitOne X.K t c = some b) (h : ∀ tk, Q (.bool b) { s with toks := tk }) :
    wpAny (model X.prog X.w) A (call (.builtin "isinstance") [u, c]) Q E s := by
  cases ty with
  | non => cases (show u = Value.none from rx); exact PySem.W.kia_one PySem.W.kitx_none I.kIn True.intro e (fun z => nomatch z) h
  | bl y => cases (show u = Value.bool y from rx); exact PySem.W.kia_one PySem.W.kitx_bool I.kIn True.intro e (fun z => nomatch z) h
  | int i => obtain ⟨t, q⟩ := (show ∃ t, u = Value.int i t from rx); cases q; exact PySem.W.kia_one PySem.W.kitx_int I.kIn True.intro e (fun z => nomatch z) h
  | str y => obtain ⟨t, q⟩ := (show ∃ t, u = Value.str y t from rx); cases q; exact PySem.W.kia_one PySem.W.kitx_str I.kIn True.intro e (fun z => nomatch z) h
  | flt y => obtain ⟨t, q⟩ := (show ∃ t, u = Value.float y t from rx); cases q; exact PySem.W.kia_one PySem.W.kitx_float I.kIn True.intro e (fun z => nomatch z) h
  | @lst a xs ea =>
    cases (show u = Value.ref a from rx)
    obtain ⟨_, _, n, _, h1⟩ := (show ObjOk X.prog X.w H s.heap a (.lst xs) from I.hok a _ ea)
    exact PySem.W.kia_one PySem.W.kitx_list I.kIn ⟨_, h1, rfl⟩ e (fun z => nomatch z) h
  | @frz a ob xs ea =>
    cases (show u = Value.ref a from rx)
    obtain ⟨_, _, _, n, _, h1⟩ := (show ObjOk X.prog X.w H s.heap a (.frz ob (.lst xs)) from I.hok a _ ea)
    exact PySem.W.kia_one PySem.W.kitx_list I.kIn ⟨_, h1, rfl⟩ e (fun z => nomatch z) h
  | @tup a xs ea =>
    cases (show u = Value.ref a from rx)
    obtain ⟨_, _, _, p⟩ := (show ObjOk X.prog X.w H s.heap a (.tup xs) from I.hok a _ ea)
    obtain ⟨o, h1, h2, _⟩ := p
    exact PySem.W.kia_one PySem.W.kitx_tuple I.kIn ⟨o, h1, h2⟩ e (fun z => nomatch z) h
  | @dK a kvs ea =>
    cases (show u = Value.ref a from rx)
    obtain ⟨_, _, vs, _, p⟩ := (show ObjOk X.prog X.w H s.heap a (.dK kvs) from I.hok a _ ea)
    obtain ⟨o, es, ep, h1, h2, _⟩ := p
    exact PySem.W.kia_one PySem.W.kitx_dict I.kIn ⟨o, h1, h2.1⟩ e (fun z => nomatch z) h
  | @dT a kvs ea =>
    cases (show u = Value.ref a from rx)
    obtain ⟨_, _, xs, _, o, es, ep, h1, h2, _⟩ := (show ObjOk X.prog X.w H s.heap a (.dT kvs) from I.hok a _ ea)
    exact PySem.W.kia_one PySem.W.kitx_dict I.kIn ⟨o, h1, h2.1⟩ e (fun z => nomatch z) h
  | @ins a C dx fs ea cl ha hn htk hm =>
    cases (show u = Value.ref a from rx)
    obtain ⟨mA, O, _⟩ := ins_get I.hok ea
    obtain ⟨od, J, _⟩ := O.look
    exact PySem.W.kia_one (PySem.W.kitx_own (cl.get _) cl.hd ha hn htk hm) I.kIn J e (fun z => nomatch z) h
end
end L2

namespace L2
open PySem PySem.Spec PyProof.Rows

structure Room (k : Nat) (A : Around) : Prop where
  hd : A.handled = none
  dp : A.depth + 3 * k + 5 < recursionLimit
  un : A.units + 16 * k + 200 < cLine
theorem Room.mono {j k : Nat} {A : Around} (r : Room k A) (h : j ≤ k) : Room j A := ⟨r.hd, by have := r.dp; omega, by have := r.un; omega⟩
theorem Room.deeper {k : Nat} {A : Around} (r : Room (k + 1) A) (env : Env) : Room k (A.deeper env) :=
  ⟨r.hd, by have := r.dp; show A.depth + 1 + 3 * k + 5 < _; omega, by have := r.un; show A.units + 3 + 16 * k + 200 < _; omega⟩
theorem Room.in1 {k : Nat} {A : Around} (r : Room (k + 1) A) : Room k A.in1 :=
  ⟨r.hd, by have := r.dp; show A.depth + 3 * k + 5 < _; omega, by have := r.un; show A.units + 1 + 16 * k + 200 < _; omega⟩
theorem Room.depth {k : Nat} {A : Around} (r : Room k A) : A.depth < recursionLimit := by have := r.dp; omega
theorem Room.units {k : Nat} {A : Around} (r : Room k A) : A.units + 64 < cLine := by have := r.un; omega
def tNil : TA := fun _ H Q => Q [] H
def tCons (ta : TE) (tr : TA) : TA := fun σ H Q => ta σ H fun x H1 => tr σ H1 fun xs H2 => Q (x :: xs) H2
section
variable {X : Cx} {e : Expr} {es : List Expr} {te : TE} {t : TA} {pos : Pos}
theorem pa_nil : PA X [] tNil := fun _ _ _ _ H Q I h => Calls.spliced_nil ⟨[], H, I, .nil, h⟩
theorem pa_cons (ha : PE X e te) (hr : PA X es t) (hs : starEach (e :: es) X.env = (false, eval e X.env) :: starEach es X.env := by rfl) : PA X (e :: es) (tCons te t) := by
  intro pos pins s σ H Q I h
  rw [hs]
  show wpAny _ _ (spliced ((false, eval e X.env) :: backTo pos (starEach es X.env))) _ _ s
  refine Calls.spliced_cons (thn (ha pins s σ H _ I h) fun u s1 ⟨x, H1, I1, r1, q1⟩ => ?_)
  exact thn (hr pos pins s1 σ H1 _ I1 q1) fun us s2 ⟨xs, H2, I2, r2, q2⟩ => ⟨x :: xs, H2, I2, .cons r1 r2, q2⟩

def tLst (t : TA) : TE := fun σ H Q => t σ H fun xs H1 => xs.length ≤ sizeLine ∧ ∀ p, H1 p = none → Q (.ref p) (upd H1 p (.lst xs))
theorem pe_lst (h : PA X es t) : PE X (.List es pos) (tLst t) := by
  intro pins s σ H Q I hq
  refine wpAny_List_spliced (thn (h pos pins s σ H _ I hq) fun us s1 ⟨xs, H1, I1, r, z, q⟩ => ⟨by rw [← r.length]; exact z, ?_⟩)
  have hf : H1 s1.heap.objs.size = none := I1.hok.fresh (Nat.le_refl _)
  refine ⟨.ref s1.heap.objs.size, upd H1 s1.heap.objs.size (.lst xs), I1.laid (t' := s1.toks) (fun b u e => Heap.get?_push_of_some _ e) (Nat.le_refl _) ?_, rfl, q _ hf⟩
  exact ⟨z, us, 0, r, Heap.get?_push_size _ rfl⟩
end

abbrev Sp := List V → Hp → VK → XK → Prop
abbrev CXT := List Env → Hp → Shared → XK → Value → Shared → Prop

structure Env0 (P : Program) (w : World) (K : PySem.W.Frag) (mg : Str → Option Value) (base : Heap) (A : Around) (outer : List Env) (s : Shared) (H : Hp) : Prop where
  frames : A.frames = some outer
  mod : Mod K mg base
  bs : ∀ b o, base.get? b = some o → s.heap.get? b = some o ∧ H b = none
  bsz : base.objs.size ≤ s.heap.objs.size
  funs : s.heap.FunFrames base outer
  frf : ∀ b ∈ frs outer, H b = none
  hok : HOk P w H s.heap
  bare : AllBare s.gens
def CE (outer : List Env) (P : Program) (w : World) (H : Hp) (s : Shared) (Q : VK) (u : Value) (s' : Shared) : Prop :=
  ∃ v H', s'.os = s.os ∧ AllBare s'.gens ∧ Un (frs outer) [] H H' s.heap s'.heap ∧ HOk P w H' s'.heap ∧ RelV v u ∧ Q v H'
def CR (CX : CXT) (outer : List Env) (P : Program) (w : World) (H : Hp) (s : Shared) (Q : VK) (E : XK) (r : Result) (s' : Shared) : Prop :=
  match r with
  | .ok (.ret u) => CE outer P w H s Q u s'
  | .ok _ => False
  | .error e => CX outer H s E e s'
structure FnOk (P : Program) (w : World) (K : PySem.W.Frag) (mg : Str → Option Value) (base : Heap) (CX : CXT) (k : Nat) (f : Addr) (fd : FuncData) (ps : List Str) (sp : Sp) : Prop where
  len : ∀ vs H Q E, sp vs H Q E → vs.length = ps.length
  run : ∀ (A : Around) (outer : List Env) (s : Shared) (H : Hp) (args : Args) (us : List Value) (vs : List V) (Q : VK) (E : XK), Room k A → Env0 P w K mg base A outer s H → BindsTo s fd args (ps.zip us) → Vals vs us → sp vs H Q E →
    codeAny (model P w) A (.call (.ref f) args) (CR CX outer P w H s Q E) s
theorem FnOk.mono {P : Program} {w : World} {K : PySem.W.Frag} {mg : Str → Option Value} {base : Heap} {CX : CXT} {j k : Nat} {f : Addr} {fd : FuncData} {ps : List Str} {sp : Sp} (F : FnOk P w K mg base CX j f fd ps sp) (h : j ≤ k) :
    FnOk P w K mg base CX k f fd ps sp := ⟨F.len, fun A outer s H args us vs Q E hr => F.run A outer s H args us vs Q E (hr.mono h)⟩
theorem Env0.in1 {P : Program} {w : World} {K : PySem.W.Frag} {mg : Str → Option Value} {base : Heap} {A : Around} {outer : List Env} {s : Shared} {H : Hp} (e : Env0 P w K mg base A outer s H) :
    Env0 P w K mg base A.in1 outer s H := ⟨e.frames, e.mod, e.bs, e.bsz, e.funs, e.frf, e.hok, e.bare⟩

section
variable {X : Cx} {pins : List (Addr × Obj)} {σ : St} {H : Hp} {s s' : Shared}
theorem Inv.env0 (I : Inv X pins σ H s) : Env0 X.prog X.w X.K X.mg X.base X.A X.stack s H :=
  ⟨I.ok.frames, I.ok.mod, I.bs, Nat.le_trans I.ok.bsz I.sz, I.stack, I.stkFree, I.hok, I.bare⟩
theorem Inv.after {Q : VK} {u : Value} (I : Inv X pins σ H s) (h : CE X.stack X.prog X.w H s Q u s') : EP X pins σ Q u s' := by
  obtain ⟨v, H', os, bare, un, hok, r, q⟩ := h
  obtain ⟨hh, g, d, t, os'⟩ := s'
  obtain rfl : os' = s.os := os
  exact ⟨v, H', I.call (h' := hh) (g' := g) (d' := d) (t' := t) (ch := []) un hok bare (fun b z => absurd z (by simp)), r, q⟩
end

def tCall (sp : Sp) (dvs : List V) (E : XK) (t : TA) : TE := fun σ H Q => t σ H fun vs H1 => sp (vs ++ dvs) H1 Q E
def Binds (K : PySem.W.Frag) (fd : FuncData) (ps : List Str) (ds : List Value) : Prop :=
  ∀ (s : Shared) (us : List Value), K.In s.heap → (us ++ ds).length = ps.length → BindsTo s fd ⟨us, []⟩ (ps.zip (us ++ ds))
theorem Binds.all {K : PySem.W.Frag} {fd : FuncData} {ps : List Str} (h : ∀ us : List Value, us.length = ps.length → bindArgs fd ⟨us, []⟩ = pure (ps.zip us)) : Binds K fd ps [] := fun s us _ hl => by
  rw [List.append_nil] at hl ⊢
  exact .of_eq (h us hl)

def Passes (CX : CXT) (X : Cx) (E : XK) : Prop := ∀ (pins : List (Addr × Obj)) (σ : St) (H : Hp) (s : Shared) (e : Value) (s' : Shared), Inv X pins σ H s → CX X.stack H s E e s' → X.xe e s'

section
variable {X : Cx} {CX : CXT} {k : Nat} {f C : Addr} {fd : FuncData} {ps : List Str} {sp : Sp} {dvs : List V} {ds : List Value} {E : XK} {x m : Str} {p pos apos : Pos} {e o : Expr} {es : List Expr} {ta : TE} {t : TA}

theorem run_fn {pins : List (Addr × Obj)} {σ : St} {H : Hp} {s : Shared} {Q : VK} {us : List Value} {vs : List V} (F : FnOk X.prog X.w X.K X.mg X.base CX k f fd ps sp) (hr : Room k X.A) (hb : Binds X.K fd ps ds) (hd : Vals dvs ds) (hx : Passes CX X E)
    (I : Inv X pins σ H s) (r : Vals vs us) (h : sp (vs ++ dvs) H Q E) : wpAny (model X.prog X.w) X.A (call (.ref f) us) (EP X pins σ Q) X.xe s := by
  have r2 : Vals (vs ++ dvs) (us ++ ds) := r.append hd
  have hl : (us ++ ds).length = ps.length := by rw [← r2.length]; exact F.len _ _ _ _ h
  refine wpAny_call (codeAny_mono (F.run X.A X.stack s H ⟨us, []⟩ (us ++ ds) (vs ++ dvs) Q E hr I.env0 (hb s us I.kIn hl) r2 h) fun r s' hq => ?_)
  cases r with
  | error e => exact hx pins σ H s e s' I hq
  | ok fl =>
    cases fl with
    | ret u => exact I.after hq
    | next => exact False.elim hq
    | brk => exact False.elim hq
    | cont => exact False.elim hq

theorem pe_call (F : FnOk X.prog X.w X.K X.mg X.base CX k f fd ps sp) (hr : Room k X.A) (hg : Gl X x) (hm : X.mg x = some (.ref f)) (hk : PySem.W.keepIn X.K (.ref f) = true) (hb : Binds X.K fd ps ds) (hd : Vals dvs ds) (hx : Passes CX X E)
    (ha : PA X (e :: es) t) (hdb : (x == ("__debug__" : Str)) = false := by decide) (he : starEach (e :: es) X.env = (false, eval e X.env) :: starEach es X.env := by rfl) (hpl : (backTo pos (starEach es X.env)).any (·.1) = false := by rfl) :
    PE X (.Call (.Name x p) (e :: es) [] pos) (tCall sp dvs E t) := by
  intro pins s σ H Q I h
  refine wpAny_Call_Name_kw (ld_glob I hg hm ?_ hdb)
  refine PySem.W.callWith_K (h₀ := X.base) I.ok.mod.kin hk (thn (ha pos pins s σ H _ I h) fun us s1 ⟨vs, H1, I1, r, q⟩ => ⟨I1.kIn, ?_⟩) he hpl
  exact run_fn F hr hb hd hx I1 r q
structure Mk (K : PySem.W.Frag) (C f : Addr) : Prop where
  makes : PySem.W.makesIn K C = true
  init : PySem.W.findIn K (.ref C) "__init__" = some (some (.ref f))
  fn : PySem.W.isFn K (.ref f) = true
  kp : PySem.W.keepIn K (.ref C) = true

end

section
variable {X : Cx} {CX : CXT} {k : Nat} {f C : Addr} {fd : FuncData} {ps ks : List Str} {sp : Sp} {E : XK} {x m : Str} {p pos apos kpos : Pos} {e o : Expr} {es : List Expr} {kws : List Keyword} {te ta : TE} {t tk : TA} {nm : Option Str}
structure KBinds (K : PySem.W.Frag) (fd : FuncData) (ps ks : List Str) (g : List Value → List Value → List Value) (gV : List V → List V → List V) : Prop where
  to : ∀ (s : Shared) (us ws : List Value), K.In s.heap → (g us ws).length = ps.length → BindsTo s fd ⟨us, ks.zip ws⟩ (ps.zip (g us ws))
  rel : ∀ {vs : List V} {us : List Value} {zs : List V} {ws : List Value}, Vals vs us → Vals zs ws → Vals (gV vs zs) (g us ws)
variable {g : List Value → List Value → List Value} {gV : List V → List V → List V}
end

structure FnScope (N P : List Str) (sc : Scope) : Prop where
  kind : sc.kind = .function
  co : sc.isCoroutine = false
  gen : sc.isGenerator = false
  nd : N.Nodup
  pre : N.take P.length = P
  par : ∀ x ∈ P, sc.names.lookup x = some .local ∨ sc.names.lookup x = some .cell
  nofree : ∀ y ∈ sc.names, y.2 ≠ .free

theorem bindL_out {kindOf : Str → Option NameKind} {x : Str} : ∀ {binds : List (Str × Value)} {m : Str → Option Value}, (∀ v, (x, v) ∉ binds) → bindL kindOf binds m x = m x
  | [], _, _ => rfl
  | (n, v) :: r, m, h => by
    unfold bindL
    rw [bindL_out fun w hw => h w (List.mem_cons_of_mem _ hw)]
    split
    · have : x ≠ n := by rintro rfl; exact h v List.mem_cons_self
      simp [this]
    · rfl
theorem bindC_out {kindOf : Str → Option NameKind} {x : Str} : ∀ {binds : List (Str × Value)} {m : Str → Option Value}, (∀ v, (x, v) ∉ binds) → bindC kindOf binds m x = m x
  | [], _, _ => rfl
  | (n, v) :: r, m, h => by
    unfold bindC
    rw [bindC_out fun w hw => h w (List.mem_cons_of_mem _ hw)]
    split
    · rfl
    · have : x ≠ n := by rintro rfl; exact h v List.mem_cons_self
      simp [this]
theorem bindL_get {kindOf : Str → Option NameKind} {x : Str} {v : Value} : ∀ {P : List Str} {vs : List Value} {i : Nat} {m : Str → Option Value}, P.Nodup → P[i]? = some x → vs[i]? = some v → kindOf x = some .local →
    bindL kindOf (P.zip vs) m x = some v
  | [], _, _, _, _, h, _, _ => by simp at h
  | _ :: _, [], _, _, _, _, h, _ => by simp at h
  | p :: P, w :: vs, 0, m, nd, h1, h2, hk => by
    simp at h1 h2; subst h1; subst h2
    show bindL kindOf ((p, w) :: P.zip vs) m p = _
    unfold bindL
    rw [bindL_out fun v hv => (List.nodup_cons.mp nd).1 (List.of_mem_zip hv).1, if_pos hk]
    simp
  | p :: P, w :: vs, i + 1, m, nd, h1, h2, hk => by
    show bindL kindOf ((p, w) :: P.zip vs) m x = _
    unfold bindL
    exact bindL_get (i := i) (List.nodup_cons.mp nd).2 (by simpa using h1) (by simpa using h2) hk
theorem bindC_get {kindOf : Str → Option NameKind} {x : Str} {v : Value} : ∀ {P : List Str} {vs : List Value} {i : Nat} {m : Str → Option Value}, P.Nodup → P[i]? = some x → vs[i]? = some v → kindOf x ≠ some .local →
    bindC kindOf (P.zip vs) m x = some v
  | [], _, _, _, _, h, _, _ => by simp at h
  | _ :: _, [], _, _, _, _, h, _ => by simp at h
  | p :: P, w :: vs, 0, m, nd, h1, h2, hk => by
    simp at h1 h2; subst h1; subst h2
    show bindC kindOf ((p, w) :: P.zip vs) m p = _
    unfold bindC
    rw [bindC_out fun v hv => (List.nodup_cons.mp nd).1 (List.of_mem_zip hv).1, if_neg hk]
    simp
  | p :: P, w :: vs, i + 1, m, nd, h1, h2, hk => by
    show bindC kindOf ((p, w) :: P.zip vs) m x = _
    unfold bindC
    exact bindC_get (i := i) (List.nodup_cons.mp nd).2 (by simpa using h1) (by simpa using h2) hk

def start (N : List Str) (vs : List V) : St := vs.map some ++ List.replicate (N.length - vs.length) none

def cxOf (CX : CXT) (P : Program) (w : World) (K : PySem.W.Frag) (mg : Str → Option Value) (base : Heap) (N : List Str) (qual : Str) (scope : Scope) (f : Addr) (cd : Value) (A : Around) (outer : List Env) (s : Shared) (H : Hp) (E : XK) : Cx where
  prog := P
  w := w
  K := K
  mg := mg
  base := base
  A := A.deeper (envOfC qual scope s.heap.objs.size f cd)
  N := N
  s₀ := s
  H₀ := H
  env := envOfC qual scope s.heap.objs.size f cd
  outer := outer
  stack := envOfC qual scope s.heap.objs.size f cd :: outer
  ex := []
  calm := true
  fn := fun _ => true
  pn := []
  xe := fun e s' => wpAny (model P w) (A.deeper (envOfC qual scope s.heap.objs.size f cd)) (leaving (envOfC qual scope s.heap.objs.size f cd) e) (fun _ s'' => CX outer H s E e s'') (fun e' s'' => CX outer H s E e' s'') s'

theorem cell_has {sc : Scope} {n : Nat} {x : Str} (h : sc.names.lookup x = some .cell) : ∃ c, (cellsFrom n sc.names []).lookup x = some c := by
  have q := PySem.W.cellsFrom_some sc.names n [] (.inl h)
  exact Option.isSome_iff_exists.mp q

theorem inv_start {CX : CXT} {P : Program} {w : World} {K : PySem.W.Frag} {mg : Str → Option Value} {base : Heap} {N ps : List Str} {qual : Str} {scope : Scope} {f : Addr} {cd : Value} {A : Around} {outer : List Env} {s s1 : Shared} {H : Hp} {E : XK} {us : List Value} {vs : List V}
    (S : FnScope N ps scope) (hd : A.handled = none) (e0 : Env0 P w K mg base A outer s H) (hl : vs.length = ps.length) (r : Vals vs us)
    (x : InCallC s s.heap.objs.size (bindL (envOfC qual scope s.heap.objs.size f cd).kindOf (ps.zip us) fun _ => none) (cellsFrom (s.heap.objs.size + 1) scope.names []) (bindC (envOfC qual scope s.heap.objs.size f cd).kindOf (ps.zip us) fun _ => none) s1) :
    Inv (cxOf CX P w K mg base N qual scope f cd A outer s H E) [] (start N vs) H s1 := by
  have hpl : ps.length ≤ N.length := by have := congrArg List.length S.pre; rw [List.length_take] at this; omega
  obtain ⟨h1, tk, rfl, hk⟩ := x.done
  have noA : ∀ b : Addr, b ∉ (cxOf CX P w K mg base N qual scope f cd A outer s H E).ex := fun b z => absurd (show b ∈ ([] : List Addr) from z) (by simp)
  refine ⟨⟨e0.mod, S.kind, rfl, rfl, Nat.le_refl _, fun y z c h1 h2 => ?_, fun y hy => ?_, fun y c _ h => ?_, fun _ => hd, Around.frames_deeper e0.frames, .inr ⟨rfl, rfl⟩, fun b z => absurd z (noA b), e0.bs, e0.bsz, fun b _ _ => noA b, fun b z => absurd z (noA b), e0.funs, e0.frf⟩,
    rfl, e0.bare, Un.kept hk, ⟨_, x.toInCall.ns, fun i y v h1 h2 h3 => ?_⟩, fun y c h => ⟨_, x.cell y c h⟩, e0.hok.fresh (Nat.le_refl _), fun y c h => ?_, fun p hp => absurd (show p ∈ ([] : List (Addr × Obj)) from hp) (by simp), e0.hok.kept hk, ?_⟩
  · exact name_of_addr x.apart (PySem.mem_of_lookup h1) (PySem.mem_of_lookup h2)
  · have hy : scope.names.lookup y = some .cell ∨ scope.names.lookup y = some .free := hy
    rcases hy with hy | hy
    · exact cell_has hy
    · exact absurd rfl (S.nofree _ (PySem.mem_of_lookup hy))
  · exact Nat.le_of_lt (x.above y c (PySem.mem_of_lookup h))
  · have hi : i < vs.length := by
      unfold start at h2
      by_cases hi : i < vs.length
      · exact hi
      · rw [List.getElem?_append_right (by simpa using hi)] at h2
        rw [List.getElem?_replicate] at h2
        split at h2 <;> cases h2
    have ha : vs[i]? = some v := by
      unfold start at h2
      rw [List.getElem?_append_left (by simpa using hi), List.getElem?_map] at h2
      cases e : vs[i]? with
      | none => rw [e] at h2; cases h2
      | some a => rw [e] at h2; cases h2; rfl
    obtain ⟨u, hu, rv⟩ := r.get ha
    have hp : ps[i]? = some y := by
      rw [← S.pre, List.getElem?_take_of_lt (by omega)]; exact h1
    have ndP : ps.Nodup := by rw [← S.pre]; exact S.nd.sublist (List.take_sublist _ _)
    refine ⟨u, rv, ?_⟩
    rcases S.par y (List.mem_of_getElem? hp) with k | k
    · exact .inl ⟨k, bindL_get ndP hp hu k⟩
    · obtain ⟨c, e⟩ := cell_has (n := s.heap.objs.size + 1) k
      refine .inr ⟨.inl k, c, e, ?_⟩
      have q := x.cell y c e
      rw [bindC_get ndP hp hu (by show scope.names.lookup y ≠ _; rw [k]; decide)] at q
      exact q
  · exact e0.hok.fresh (Nat.le_of_lt (x.above y c (PySem.mem_of_lookup h)))
  · unfold start
    show _ = N.length
    rw [List.length_append, List.length_map, List.length_replicate]
    omega

theorem fn_of {CX : CXT} {P : Program} {w : World} {K : PySem.W.Frag} {mg : Str → Option Value} {base : Heap} {k : Nat} {f : Addr} {name qual : Str} {params : Arguments} {body : List Stmt} {scope : Scope} {dV kV doc pm cdv ct oc : Value} {an od : Option Addr}
    {osl : Array (Option Value)} {N ps : List Str} {sp : Sp} (lk : K.lookup f = some ⟨oc, od, .func (PySem.W.fnOf name qual params body scope dV kV doc pm an cdv ct), osl⟩) (hcd : PySem.W.codeIn K cdv qual = true) (S : FnScope N ps scope)
    (len : ∀ vs H Q E, sp vs H Q E → vs.length = ps.length)
    (hbody : ∀ (A : Around) (outer : List Env) (s : Shared) (H : Hp) (vs : List V) (Q : VK) (E : XK), Room k (A.deeper (envOfC qual scope s.heap.objs.size f cdv)) → sp vs H Q E →
      ∃ t, PSs (cxOf CX P w K mg base N qual scope f cdv A outer s H E) body t ∧ t { nx := fun _ H' => Q .non H', rt := Q } (start N vs) H) :
    FnOk P w K mg base CX (k + 1) f (PySem.W.fnOf name qual params body scope dV kV doc pm an cdv ct) ps sp := by
  refine ⟨len, fun A outer s H args us vs Q E hr e0 hb r hsp => ?_⟩
  have hl := len _ _ _ _ hsp
  have KX : K.In s.heap := e0.mod.kin.keeps fun b o e => (e0.bs b o e).1
  have lim : s.heap.NoLimit := e0.mod.nolimit.keeps fun b o e => (e0.bs b o e).1
  have hkind : ∀ y ∈ ps.zip us, scope.names.lookup y.1 = some .local ∨ (scope.names.lookup y.1 = some .cell ∧ ((cellsFrom (s.heap.objs.size + 1) scope.names []).lookup y.1).isSome = true) := fun ⟨n, v⟩ hy => by
    rcases S.par n (List.of_mem_zip hy).1 with q | q
    · exact .inl q
    · exact .inr ⟨q, PySem.W.cellsFrom_some _ _ _ (.inl q)⟩
  refine codeAny_call_function hr.depth (KX _ _ lk) rfl S.co S.gen rfl (PySem.W.codeRec_of KX hcd) (hb _ _ _ _ ?_)
  refine wpAny_newFunctionEnv_cells S.kind hkind fun env he s1 x => ?_
  subst he
  refine ⟨lim.keeps x.toInCall.keep, codeAny_func ?_⟩
  obtain ⟨t, ht, hq⟩ := hbody A outer s H vs Q E (hr.deeper _) hsp
  have I : Inv (cxOf CX P w K mg base N qual scope f cdv A outer s H E) [] (start N vs) H s1 := inv_start S hr.hd e0 hl r x
  refine wpAny_mono (ht [] s1 (start N vs) H _ I hq) (fun fl s' hs => ?_) fun e s' hs => hs
  have fin : ∀ {σ' : St} {H' : Hp} {v : V} {u : Value}, Inv (cxOf CX P w K mg base N qual scope f cdv A outer s H E) [] σ' H' s' → RelV v u → Q v H' → CE outer P w H s Q u s' :=
    fun {σ' H' v u} J rv q => ⟨v, H', J.os, J.bare, J.base, J.hok, rv, q⟩
  cases fl with
  | ret u =>
    obtain ⟨v, σ', H', J, rv, q⟩ := hs
    exact fin J rv q
  | next =>
    obtain ⟨σ', H', J, q⟩ := hs
    exact fin (v := V.non) (u := Value.none) J rfl q
  | brk =>
    obtain ⟨_, _, _, q⟩ := hs
    exact False.elim q
  | cont =>
    obtain ⟨_, _, _, q⟩ := hs
    exact False.elim q
end L2

namespace L2
open PySem PySem.Spec PyProof.Rows
section
variable {X : Cx} {x : Str} {p pos : Pos} {e : Expr} {es : List Expr} {t : TA} {id T : String} {r : List V → Hp → VK → Prop}

def tCB (r : List V → Hp → VK → Prop) (t : TA) : TE := fun σ H Q => t σ H fun vs H1 => r vs H1 Q
theorem pe_callB (hc : CallR X (.builtin id) r) (hg : Gl X x) (hm : X.mg x = none) (hv : bootBuiltins x = some (.builtin id)) (ha : PA X (e :: es) t) (hn : x ≠ "__name__" := by decide) (hdb : (x == ("__debug__" : Str)) = false := by decide)
    (he : starEach (e :: es) X.env = (false, eval e X.env) :: starEach es X.env := by rfl) (hpl : (backTo pos (starEach es X.env)).any (·.1) = false := by rfl) : PE X (.Call (.Name x p) (e :: es) [] pos) (tCB r t) := by
  intro pins s σ H Q I h
  refine wpAny_Call_Name_kw (ld_blt I hg hm hv ?_ hn hdb)
  exact PyProof.Rows.callWith_builtin1 (thn (ha pos pins s σ H _ I h) fun us s1 ⟨vs, H1, I1, r1, q1⟩ => hc pins s1 σ H1 vs us Q I1 r1 q1) he hpl
theorem pe_callTy (hc : CallR X (.type T) r) (hg : Gl X x) (hm : X.mg x = none) (hv : bootBuiltins x = some (.type T)) (ha : PA X (e :: es) t) (hn : x ≠ "__name__" := by decide) (hdb : (x == ("__debug__" : Str)) = false := by decide)
    (he : starEach (e :: es) X.env = (false, eval e X.env) :: starEach es X.env := by rfl) (hpl : (backTo pos (starEach es X.env)).any (·.1) = false := by rfl) : PE X (.Call (.Name x p) (e :: es) [] pos) (tCB r t) := by
  intro pins s σ H Q I h
  refine wpAny_Call_Name_kw (ld_blt I hg hm hv ?_ hn hdb)
  exact PyProof.Rows.callWith_type1 (thn (ha pos pins s σ H _ I h) fun us s1 ⟨vs, H1, I1, r1, q1⟩ => hc pins s1 σ H1 vs us Q I1 r1 q1) he hpl
end
end L2

namespace HT
open PySem PyProof.Rows

section
open PySem.SeqAt
open PySem.AutoSeq1 (wpAny_loadPart')
open PySem.MeetsSeq PySem.MeetsSeq2 PySem.MeetsSeq3

end

section
variable {prog : Program} {w : World} {A : Around} {E : Value → Shared → Prop} {s : Shared}

def sIx (n d : Nat) : Option Int → Nat
  | none => d
  | some v => if v < 0 then (v + (n : Int)).toNat else min v.toNat n
theorem sIx_nat (n d k : Nat) : sIx n d (some (k : Int)) = min k n := by
  show (if (k : Int) < 0 then ((k : Int) + (n : Int)).toNat else min (k : Int).toNat n) = min k n
  rw [if_neg (by omega), Int.toNat_natCast]
end
end HT

namespace L2
open PySem PySem.Spec PyProof.Rows

abbrev TO := St → Hp → (Option Int → Hp → Prop) → Prop
def PO (X : Cx) (e : Option Expr) (t : TO) : Prop :=
  ∀ (pins : List (Addr × Obj)) (s : Shared) (σ : St) (H : Hp) (Q : Option Int → Hp → Prop), Inv X pins σ H s → t σ H Q →
    wpAny (model X.prog X.w) X.A (evalPart e X.env) (fun u s' => ∃ o H', Inv X pins σ H' s' ∧ IsPart u o ∧ Q o H') X.xe s
def tNoPart : TO := fun _ H Q => Q none H
def tPart (t : TE) : TO := fun σ H Q => t σ H fun x H1 => ∃ i, x = .int i ∧ Q (some i) H1

theorem intsAre_of {ns : List Int} : ∀ {us : List Value}, Vals (ns.map V.int) us → IntsAre us ns := by
  induction ns with
  | nil => intro us r; rw [List.map_nil] at r; cases r; exact .nil
  | cons n ns ih =>
    intro us r
    rw [List.map_cons] at r
    cases r with
    | cons r1 r2 =>
      obtain ⟨t, e⟩ := r1
      subst e
      exact .cons n t (ih r2)

section
variable {X : Cx} {e : Expr} {te : TE} {lo hi : Option Expr} {tl th : TO} {pos p2 : Pos}

theorem po_none : PO X none tNoPart := by
  intro pins s σ H Q I h
  rw [evalPart_none]
  exact wpAny_pure ⟨none, H, I, .none, h⟩
theorem po_some (h : PE X e te) : PO X (some e) (tPart te) := by
  intro pins s σ H Q I hw
  rw [evalPart_some]
  refine thn (h pins s σ H _ I hw) fun u s1 ⟨x, H1, I1, r1, q1⟩ => ?_
  obtain ⟨i, rfl, q⟩ := q1
  obtain ⟨t, rfl⟩ := r1
  exact ⟨some i, H1, I1, .int i t, q⟩

def SlR (X : Cx) (r : V → Option Int → Option Int → Hp → VK → Prop) : Prop :=
  ∀ (pins : List (Addr × Obj)) (s : Shared) (σ : St) (H : Hp) (x : V) (v vl vu : Value) (lo hi : Option Int) (sl : Addr) (Q : VK), Inv X pins σ H s → RelV x v → s.heap.IsSliceOf sl vl vu .none → IsPart vl lo → IsPart vu hi → r x lo hi H Q →
    ∃ T id, typeLookup (.type T) "__getitem__" = pure (some (.builtin id)) ∧ s.TypeIs v T ∧ wpAny (model X.prog X.w) X.A (getItem v (.ref sl)) (EP X pins σ Q) X.xe s
def tSl (r : V → Option Int → Option Int → Hp → VK → Prop) (te : TE) (tl th : TO) : TE := fun σ H Q => te σ H fun x H1 => tl σ H1 fun l H2 => th σ H2 fun u H3 => r x l u H3 Q
theorem pe_slice {r : V → Option Int → Option Int → Hp → VK → Prop} (hr : SlR X r) (he : PE X e te) (hl : PO X lo tl) (hu : PO X hi th) : PE X (.Subscript e (.Slice lo hi none p2) pos) (tSl r te tl th) := by
  intro pins s σ H Q I h
  refine Subscript_ (thn (he pins s σ H _ I h) fun v s1 ⟨x, H1, I1, r1, q1⟩ => ?_)
  refine wpAny_Slice (thn (hl pins s1 σ H1 _ I1 q1) fun vl s2 ⟨l, H2, I2, pl, q2⟩ => thn (hu pins s2 σ H2 _ I2 q2) fun vu s3 ⟨u, H3, I3, pu, q3⟩ => ?_)
  rw [evalPart_none]
  refine wpAny_pure ?_
  have I4 : Inv X pins σ H3 { s3 with heap := s3.heap.push { cls := .type "slice", data := .fields #[vl, vu, .none] } } := I3.kept (t' := s3.toks) fun b ob q => Heap.get?_push_of_some _ q
  obtain ⟨T, id, hT, ht, hg⟩ := hr pins { s3 with heap := s3.heap.push { cls := .type "slice", data := .fields #[vl, vu, .none] } } σ H3 x v vl vu l u s3.heap.objs.size Q I4 r1 (Heap.IsSliceOf.new ..) pl pu q3
  show wpAny (model X.prog X.w) X.A (subscriptTail e (.Slice lo hi none p2) v (.ref s3.heap.objs.size)) (EP X pins σ Q) X.xe { s3 with heap := s3.heap.push { cls := .type "slice", data := .fields #[vl, vu, .none] } }
  exact tail_any (ops := [.ref s3.heap.objs.size, v]) ht hT hg (by with_unfolding_all rfl)

def cutV (xs : List V) (lo hi : Option Int) : List V := (xs.drop (HT.sIx xs.length 0 lo)).take (HT.sIx xs.length xs.length hi - HT.sIx xs.length 0 lo)
theorem cutV_length (xs : List V) (lo hi : Option Int) : (cutV xs lo hi).length ≤ xs.length := by
  unfold cutV
  rw [List.length_take, List.length_drop]
  omega
end
end L2

namespace L2
open PySem PySem.Spec PyProof.Rows

def ixN (n : Nat) (i : Int) : Option Nat := if 0 ≤ i then (if i < n then some i.toNat else none) else if -(n : Int) ≤ i then some (i + n).toNat else none
def atI {α : Type} (xs : List α) (i : Int) : Option α := (ixN xs.length i).bind fun j => xs[j]?
theorem ixN_seq {n : Nat} {i : Int} {j : Nat} (h : ixN n i = some j) : seqIndex? i n = some j ∧ j < n ∧ -(n : Int) ≤ i ∧ i < n := by
  unfold ixN at h
  by_cases h0 : 0 ≤ i
  · rw [if_pos h0] at h
    by_cases h1 : i < n
    · rw [if_pos h1] at h
      have e : i.toNat = j := Option.some.inj h
      exact ⟨by rw [seqIndex_of h0 h1, e], by omega, by omega, h1⟩
    · rw [if_neg h1] at h; cases h
  · rw [if_neg h0] at h
    by_cases h1 : -(n : Int) ≤ i
    · rw [if_pos h1] at h
      have e : (i + n).toNat = j := Option.some.inj h
      exact ⟨by rw [seqIndex_neg (by omega) h1, e], by omega, h1, by omega⟩
    · rw [if_neg h1] at h; cases h
theorem atI_get {α : Type} {xs : List α} {i : Int} {v : α} (h : atI xs i = some v) : ∃ j, seqIndex? i xs.length = some j ∧ xs[j]? = some v ∧ j < xs.length ∧ -(xs.length : Int) ≤ i ∧ i < xs.length := by
  unfold atI at h
  cases e : ixN xs.length i with
  | none => rw [e] at h; cases h
  | some j =>
    rw [e] at h
    obtain ⟨h1, h2, h3, h4⟩ := ixN_seq e
    exact ⟨j, h1, h, h2, h3, h4⟩
theorem atI_nat {α : Type} {xs : List α} {j : Nat} {v : α} (h : xs[j]? = some v) : atI xs (j : Int) = some v := by
  have hj : j < xs.length := (List.getElem?_eq_some_iff.mp h).1
  have e : ixN xs.length (j : Int) = some j := by
    unfold ixN
    rw [if_pos (by omega), if_pos (by omega)]; simp
  unfold atI; rw [e]; exact h
def PlainIx (b : Expr) : Prop := ∀ o i, subscripted b false o i = operate [o, i] (getItem o i)
def IxR (X : Cx) (r : R2) : Prop :=
  ∀ (value slice : Expr) (pins : List (Addr × Obj)) (s : Shared) (σ : St) (H : Hp) (x y : V) (v u : Value) (Q : VK), Inv X pins σ H s → RelV x v → RelV y u → r x y H Q →
    subscripted slice false v u = operate [v, u] (getItem v u) → wpAny (model X.prog X.w) X.A (subscriptTail value slice v u) (EP X pins σ Q) X.xe s
def MtR (X : Cx) (id : String) (r : V → List V → Hp → VK → Prop) : Prop :=
  ∀ (pins : List (Addr × Obj)) (s : Shared) (σ : St) (H : Hp) (x : V) (xs : List V) (v : Value) (us : List Value) (Q : VK), Inv X pins σ H s → RelV x v → Vals xs us → r x xs H Q →
    wpAny (model X.prog X.w) X.A (call (.builtin id) (v :: us)) (EP X pins σ Q) X.xe s
section
variable {X : Cx} {a b : Expr} {ta tb : TE} {pos : Pos}
theorem pe_ix {r : R2} (hr : IxR X r) (ha : PE X a ta) (hb : PE X b tb) (hs : PlainIx b) : PE X (.Subscript a b pos) (tOp r ta tb) := by
  intro pins s σ H Q I h
  exact Subscript_ (binT ha hb I h fun v u s2 x y H2 I2 rx ry q => hr a b pins s2 σ H2 x y v u Q I2 rx ry q (hs _ _))

def rIxL (K : PySem.W.Frag) : R2 := fun x y H Q => ∃ p xs i v, x = .ref p ∧ y = .int i ∧ SqL K H p xs ∧ atI xs i = some v ∧ Q v H
def rIxS : R2 := fun x y H Q => ∃ z i c, x = .str z ∧ y = .int i ∧ z.length ≤ sizeLine ∧ atI z.cps.toList i = some c ∧ Q (.str ⟨#[c]⟩) H
theorem ix_list : IxR X (rIxL X.K) := by
  intro value slice pins s σ H x y v u Q I rx ry h hs
  obtain ⟨p, xs, i, z, rfl, rfl, hq, he, q⟩ := h
  cases rx
  obtain ⟨t, rfl⟩ := ry
  obtain ⟨its, r, pl, hz⟩ := I.list hq
  obtain ⟨j, h1, h2, h3, h4, h5⟩ := atI_get he
  obtain ⟨w, ew, rw'⟩ := r.get h2
  have hl := r.length
  have hn := line63
  have fin : EP X pins σ Q w s := ⟨z, H, I, rw', q⟩
  by_cases h0 : 0 ≤ i
  · have hj : i.toNat = j := by
      rw [seqIndex_of h0 h5] at h1
      exact Option.some.inj h1
    exact item_listR pl.isList h0 (by omega) (by rw [hj]; simpa using ew) fin hs
  · have hj : (i + (its.toArray.size : Int)).toNat = j := by
      rw [seqIndex_neg (by omega) h4] at h1
      rw [List.size_toArray, ← hl]
      exact Option.some.inj h1
    exact subscriptTail_builtinR (x := w) pl.isList.typeIs slot_list_getitem.lookup
      (wpAny_getItem_list_neg (Q := fun r s' => r = w ∧ EP X pins σ Q r s') pl.isList (by omega) (by rw [List.size_toArray] <;> omega) (by omega) (by rw [hj]; simpa using ew) ⟨rfl, fin⟩) hs
theorem ix_str : IxR X rIxS := by
  intro value slice pins s σ H x y v u Q I rx ry h hs
  obtain ⟨z, i, c, rfl, rfl, hz, he, q⟩ := h
  obtain ⟨t, rfl⟩ := rx
  obtain ⟨t', rfl⟩ := ry
  obtain ⟨j, h1, h2, h3, h4, h5⟩ := atI_get he
  have hl : z.cps.toList.length = z.length := by simp [Str.length]
  rw [hl] at h1 h4 h5
  have hn := line63
  exact tail_any (typeIs_str s z t) slot_str_getitem.lookup (getItem_str (c := c) (by
    have e1 : decide (i < -(2 ^ 63 : Int)) = false := decide_eq_false (by omega)
    have e2 : decide (i ≥ 2 ^ 63) = false := decide_eq_false (by omega)
    rw [e1, e2, Bool.or_false]) (by rw [h1]; simpa using h2) ⟨.str ⟨#[c]⟩, H, I.tok _, ⟨_, rfl⟩, q⟩) hs
theorem Inv.lst {pins : List (Addr × Obj)} {σ : St} {H : Hp} {s : Shared} {p : Addr} {xs : List V} (I : Inv X pins σ H s) (h : H p = some (.lst xs)) :
    ∃ (its : List Value) (n : Nat), Vals xs its ∧ s.heap.get? p = some { cls := .type "list", data := .seq its.toArray n } ∧ xs.length ≤ sizeLine := by
  obtain ⟨z, its, n, r, e⟩ := I.hok p _ h
  exact ⟨its, n, r, e, z⟩
theorem slice_bounds (lo hi : Option Int) (n : Nat) : (sliceBounds lo hi none n).1 = ((HT.sIx n 0 lo : Nat) : Int) ∧ (sliceBounds lo hi none n).2.1 = ((HT.sIx n n hi : Nat) : Int) ∧ (sliceBounds lo hi none n).2.2 = 1 := by
  refine ⟨?_, ?_, rfl⟩
  · cases lo with
    | none => simp [sliceBounds, HT.sIx]
    | some i =>
      simp only [sliceBounds, HT.sIx, Option.getD_none, show (1 : Int) > 0 by decide, if_true]
      by_cases h : i < 0
      · simp only [h, if_true] <;> omega
      · simp only [h, if_false] <;> omega
  · cases hi with
    | none => simp [sliceBounds, HT.sIx]
    | some i =>
      simp only [sliceBounds, HT.sIx, Option.getD_none, show (1 : Int) > 0 by decide, if_true]
      by_cases h : i < 0
      · simp only [h, if_true] <;> omega
      · simp only [h, if_false] <;> omega
theorem slicePick_cut (its : List Value) (lo hi : Option Int) : slicePick its.toArray lo hi none = ((its.drop (HT.sIx its.length 0 lo)).take (HT.sIx its.length its.length hi - HT.sIx its.length 0 lo)).toArray := by
  obtain ⟨h1, h2, h3⟩ := slice_bounds lo hi its.toArray.size
  unfold slicePick
  rw [h1, h2, h3]
  simp only [sliceRange_one, pick_run, List.size_toArray] <;> rfl
def rSlL (K : PySem.W.Frag) : V → Option Int → Option Int → Hp → VK → Prop := fun x lo hi H Q => ∃ a xs, x = .ref a ∧ SqL K H a xs ∧ ∀ p, H p = none → Q (.ref p) (upd H p (.lst (cutV xs lo hi)))
theorem sl_list : SlR X (rSlL X.K) := by
  intro pins s σ H x v vl vu lo hi sl Q I rx hs pl pu h
  obtain ⟨a, xs, rfl, hx, q⟩ := h
  cases rx
  obtain ⟨its, r, ht, hz⟩ := I.list hx
  have hlen := r.length
  refine ⟨"list", _, slot_list_getitem.lookup, ht.isList.typeIs, ?_⟩
  refine wpAny_getItem_list_slice ht.isList hs pl pu .none (by simp) ?_ (by rw [List.size_toArray] <;> omega)
  rw [slicePick_cut, ← hlen]
  refine ⟨.ref s.heap.objs.size, _, I.laid (t' := s.toks) (o := .lst (cutV xs lo hi)) (fun b ob q => Heap.get?_push_of_some _ q) (Nat.le_refl _) ?_, rfl, q _ (I.hok.fresh (Nat.le_refl _))⟩
  exact ⟨Nat.le_trans (cutV_length xs lo hi) hz, _, 0, (r.drop (HT.sIx xs.length 0 lo)).take (HT.sIx xs.length xs.length hi - HT.sIx xs.length 0 lo), Heap.get?_push_size _ rfl⟩

theorem call_len_seq : CallR X (.builtin "len") (fun xs H Q => ∃ p ys, xs = [.ref p] ∧ (SqL X.K H p ys ∨ SqT X.K H p ys) ∧ Q (.int ys.length) H) := by
  intro pins s σ H xs us Q I r h
  obtain ⟨p, ys, rfl, hq, q⟩ := h
  obtain ⟨u, rfl, rx⟩ := vals1 r
  cases rx
  have hn := line63
  rcases hq with hq | hq
  · obtain ⟨its, r', pl, hz⟩ := I.list hq
    have hlen := r'.length
    exact Calls.call_len_list pl.isList (by simp only [List.size_toArray] <;> omega) ⟨.int ys.length, H, I.tok _, ⟨s.toks + 1, by rw [List.size_toArray, hlen]⟩, q⟩
  · obtain ⟨its, r', pl, hz⟩ := I.tuple hq
    have hlen := r'.length
    exact len_tuple pl (by simp only [List.size_toArray] <;> omega) ⟨.int ys.length, H, I.tok _, ⟨s.toks + 1, by rw [List.size_toArray, hlen]⟩, q⟩
theorem call_len_str : CallR X (.builtin "len") (fun xs H Q => ∃ z, xs = [.str z] ∧ z.length ≤ sizeLine ∧ Q (.int z.length) H) := by
  intro pins s σ H xs us Q I r h
  obtain ⟨z, rfl, hz, q⟩ := h
  obtain ⟨u, rfl, t, rfl⟩ := vals1 r
  have hn := line63
  exact len_str (by omega) ⟨.int z.length, H, I.tok _, ⟨_, rfl⟩, q⟩
theorem call_list_of : CallR X (.type "list") (fun xs H Q => ∃ p ys, xs = [.ref p] ∧ (SqL X.K H p ys ∨ SqT X.K H p ys) ∧ ∀ l, H l = none → Q (.ref l) (upd H l (.lst ys))) := by
  intro pins s σ H xs us Q I r h
  obtain ⟨p, ys, rfl, hq, q⟩ := h
  obtain ⟨u, rfl, rx⟩ := vals1 r
  cases rx
  have fin : ∀ (its : List Value), Vals ys its → ys.length ≤ sizeLine → ∀ (h' : Heap) (c' : Nat), (∀ b o', s.heap.get? b = some o' → h'.get? b = some o') →
      h'.get? s.heap.objs.size = some { cls := .type "list", dict := none, data := .seq its.toArray c', slots := #[] } → EP X pins σ Q (.ref s.heap.objs.size) { s with heap := h' } := fun its r' hz h' c' kp e =>
    ⟨.ref s.heap.objs.size, _, I.laid (t' := s.toks) kp (Nat.le_refl _) (show ObjOk X.prog X.w _ h' _ (.lst ys) from ⟨hz, its, c', r', e⟩), rfl, q _ (I.hok.fresh (Nat.le_refl _))⟩
  rcases hq with hq | hq
  · obtain ⟨its, r', pl, hz⟩ := I.list hq
    have hlen := r'.length
    obtain ⟨o, ho, hc, n, hd⟩ := pl.isList
    exact call_list_seq p (.inl rfl) ho hc hd (fun h' c' kp e => fin its r' hz h' c' kp e) (by simp only [List.size_toArray] <;> omega)
  · obtain ⟨its, r', pl, hz⟩ := I.tuple hq
    have hlen := r'.length
    obtain ⟨o, ho, hc, n, hd⟩ := pl
    exact call_list_seq p (.inr rfl) ho hc hd (fun h' c' kp e => fin its r' hz h' c' kp e) (by simp only [List.size_toArray] <;> omega)
def tyV (K : PySem.W.Frag) (T : String) (x : V) (H : Hp) : Prop := match x with
  | .str _ => T = "str"
  | .int _ => T = "int"
  | .ref p => (T = "list" ∧ ∃ xs, SqL K H p xs) ∨ (T = "tuple" ∧ ∃ o, K.lookup p = some o ∧ o.cls = .type "tuple" ∧ o.dict = none) ∨
      (T = "dict" ∧ ((∃ kvs, H p = some (.dK kvs)) ∨ ∃ kvs, H p = some (.dT kvs))) ∨ (T = "set" ∧ ∃ S n, H p = some (.set S n))
  | _ => False
theorem tyV_is {pins : List (Addr × Obj)} {σ : St} {H : Hp} {s : Shared} {T : String} {x : V} {v : Value} (I : Inv X pins σ H s) (r : RelV x v) (ty : tyV X.K T x H) :
    s.TypeIs v T ∧ ∀ a, v = .ref a → ∃ ob, s.heap.get? a = some ob ∧ ob.dict = none := by
  cases x with
  | str z =>
    obtain ⟨t, rfl⟩ := r
    cases (show T = "str" from ty)
    exact ⟨typeIs_str s z t, fun _ e => nomatch e⟩
  | int i =>
    obtain ⟨t, rfl⟩ := r
    cases (show T = "int" from ty)
    exact ⟨typeIs_int s i t, fun _ e => nomatch e⟩
  | ref p =>
    cases r
    rcases ty with ⟨rfl, xs, hq⟩ | ⟨rfl, o, hk, hc, hd⟩ | ⟨rfl, hk⟩ | ⟨rfl, S, n, hk⟩
    · obtain ⟨its, _, pl, _⟩ := I.list hq
      refine ⟨pl.isList.typeIs, fun a e => ?_⟩
      cases e
      obtain ⟨o, n, e, c, hd, _⟩ := pl
      exact ⟨o, e, hd⟩
    · refine ⟨⟨o, I.kIn p o hk, hc⟩, fun a e => ?_⟩
      cases e
      exact ⟨o, I.kIn _ o hk, hd⟩
    · have z : ∃ o, s.heap.get? p = some o ∧ o.ExactDict := by
        rcases hk with ⟨kvs, hk⟩ | ⟨kvs, hk⟩
        · obtain ⟨_, _, _, _, o, _, _, e, ex, _⟩ := I.hok p _ hk
          exact ⟨o, e, ex⟩
        · obtain ⟨_, _, _, _, o, _, _, e, ex, _⟩ := I.hok p _ hk
          exact ⟨o, e, ex⟩
      obtain ⟨o, e, ex⟩ := z
      refine ⟨⟨o, e, ex.1⟩, fun a e2 => ?_⟩
      cases e2
      exact ⟨o, e, ex.2.1⟩
    · obtain ⟨o, _, _, _, e, ex, _⟩ := I.hok p _ hk
      refine ⟨⟨o, e, ex.1⟩, fun a e2 => ?_⟩
      cases e2
      exact ⟨o, e, ex.2.1⟩
  | _ => exact False.elim ty
def tBM0 (K : PySem.W.Frag) (T : String) (r : V → List V → Hp → VK → Prop) (to : TE) : TE := fun σ H Q => to σ H fun x H1 => tyV K T x H1 ∧ r x [] H1 Q
def tBM (K : PySem.W.Frag) (T : String) (r : V → List V → Hp → VK → Prop) (to : TE) (t : TA) : TE := fun σ H Q => to σ H fun x H1 => tyV K T x H1 ∧ t σ H1 fun xs H2 => r x xs H2 Q
variable {o e : Expr} {es : List Expr} {to : TE} {t : TA} {name : Str} {apos cpos : Pos} {T id : String} {r : V → List V → Hp → VK → Prop}
theorem pe_bm0 (pa : PlainAttrs T) (slot : Slot T name id) (hty : typeOf (.builtin id) = pure (.type "method_descriptor")) (hm : MtR X id r) (ho : PE X o to)
    (hbase : attributeBase o name X.env (eval o X.env) = eval o X.env := by rfl) (hline : (apos.endLine == cpos.line) = true := by rfl) : PE X (.Call (.Attribute o name apos) [] [] cpos) (tBM0 X.K T r to) := by
  intro pins s σ H Q I h
  refine wpAny_Call_method0_late hbase hline (thn (ho pins s σ H _ I h) fun v s1 ⟨x, H1, I1, r1, ty, q1⟩ => ?_)
  obtain ⟨h1, h2⟩ := tyV_is I1 r1 ty
  exact ⟨T, id, pa, slot, hty, h1, h2, Calls.callWith_builtin rfl (PySem.evalArgs_none (hm pins s1 σ H1 x [] v [] Q I1 r1 .nil q1))⟩
theorem pe_bm (pa : PlainAttrs T) (slot : Slot T name id) (hty : typeOf (.builtin id) = pure (.type "method_descriptor")) (hm : MtR X id r) (ho : PE X o to) (ha : PA X (e :: es) t)
    (hbase : attributeBase o name X.env (eval o X.env) = eval o X.env := by rfl)
    (hfew : ((backTo cpos (starEach (e :: es) X.env)).all (fun x => !x.1) && (backToKw cpos (keywordEach [] X.env)).all (fun x => x.1.isSome)
      && decide ((e :: es).length + ([] : List Keyword).length + (if ([] : List Keyword).isEmpty then 0 else 1) < 30)) = true := by rfl)
    (hline : (apos.endLine == cpos.line) = true := by rfl) (hs : starEach (e :: es) X.env = (false, eval e X.env) :: starEach es X.env := by rfl) (hplain : (backTo cpos (starEach es X.env)).any (·.1) = false := by rfl) :
    PE X (.Call (.Attribute o name apos) (e :: es) [] cpos) (tBM X.K T r to t) := by
  intro pins s σ H Q I h
  refine wpAny_Call_method_late hbase hfew hline rfl (thn (ho pins s σ H _ I h) fun v s1 ⟨x, H1, I1, r1, ty, q1⟩ => ?_)
  obtain ⟨h1, h2⟩ := tyV_is I1 r1 ty
  refine ⟨T, id, pa, slot, hty, h1, h2, ?_⟩
  have hA := ha cpos pins s1 σ H1 _ I1 q1
  rw [hs] at hA ⊢
  refine Calls.callWith_builtin (by show (false || (backTo cpos (starEach es X.env)).any (·.1)) = false; rw [hplain] <;> rfl) (Calls.evalArgs_plain ?_)
  exact thn hA fun us s2 ⟨vs, H2, I2, r2, q2⟩ => hm pins s2 σ H2 x vs v us Q I2 r1 r2 q2
/- xs.append(e), list.index on a module's tuple .. are MtR facts of 06m -/
end
end L2

namespace L2
open PySem PySem.Spec PyProof.Rows

def MtM (X : Cx) (id : String) (r : V → List V → Hp → VK → Prop) : Prop :=
  ∀ (pins : List (Addr × Obj)) (s : Shared) (σ : St) (H : Hp) (x : V) (xs : List V) (v : Value) (us : List Value) (Q : VK), Inv X pins σ H s → RelV x v → Vals xs us → r x xs H Q →
    wpAny (model X.prog X.w) X.A (call (.builtin id) (v :: us)) (EP X pins σ Q) X.xe s

theorem Vals.one : ∀ {x : V} {us : List Value}, Vals [x] us → ∃ u, us = [u] ∧ RelV x u
  | _, _, .cons r .nil => ⟨_, rfl, r⟩
theorem Vals.two : ∀ {x y : V} {us : List Value}, Vals [x, y] us → ∃ u v, us = [u, v] ∧ RelV x u ∧ RelV y v
  | _, _, _, .cons r (.cons q .nil) => ⟨_, _, rfl, r, q⟩
theorem Vals.zero : ∀ {us : List Value}, Vals [] us → us = []
  | _, .nil => rfl
theorem Vals.dropLast {xs : List V} {us : List Value} (h : Vals xs us) : Vals xs.dropLast us.dropLast := by
  induction h with
  | nil => exact .nil
  | cons r t ih =>
    cases t with
    | nil => exact .nil
    | cons q t' => exact .cons r ih
theorem Vals.eraseIdx : ∀ {xs : List V} {us : List Value} (i : Nat), Vals xs us → Vals (xs.eraseIdx i) (us.eraseIdx i)
  | _, _, _, .nil => .nil
  | _, _, 0, .cons _ t => t
  | _, _, i + 1, .cons r t => .cons r (Vals.eraseIdx i t)
theorem Vals.reverse {xs : List V} {us : List Value} (h : Vals xs us) : Vals xs.reverse us.reverse := by
  induction h with
  | nil => exact .nil
  | cons r t ih => rw [List.reverse_cons, List.reverse_cons]; exact Vals.append ih (.cons r .nil)
theorem Vals.rep {xs : List V} {us : List Value} (h : Vals xs us) : ∀ k : Nat, Vals (List.replicate k xs).flatten (List.replicate k us).flatten
  | 0 => .nil
  | k + 1 => by
    rw [List.replicate_succ, List.replicate_succ, List.flatten_cons, List.flatten_cons]
    exact Vals.append h (Vals.rep h k)
theorem erase_last {α : Type} (l : List α) : l.eraseIdx (l.length - 1) = l.dropLast := by
  induction l with
  | nil => rfl
  | cons a r ih =>
    cases r with
    | nil => rfl
    | cons b r =>
      have e : (a :: b :: r).length - 1 = ((b :: r).length - 1) + 1 := by
        have h1 : (a :: b :: r).length = r.length + 2 := rfl
        have h2 : (b :: r).length = r.length + 1 := rfl
        omega
      rw [e, List.eraseIdx_cons_succ, ih]
      all_goals rfl
theorem foldl_rep (its : List Value) : ∀ (k : Nat) (acc : List Value),
    List.foldl (fun x1 x2 => x1 ++ x2) acc.toArray (List.replicate k its.toArray) = (acc ++ (List.replicate k its).flatten).toArray
  | 0, acc => by simp
  | k + 1, acc => by
    have e : acc.toArray ++ its.toArray = (acc ++ its).toArray := by simp
    have e2 : (acc ++ its) ++ (List.replicate k its).flatten = acc ++ (List.replicate (k + 1) its).flatten := by
      rw [List.replicate_succ, List.flatten_cons, List.append_assoc]
    rw [← e2, ← foldl_rep its k (acc ++ its), ← e, List.replicate_succ, List.foldl_cons]

section
variable {X : Cx} {pins : List (Addr × Obj)} {σ : St} {H : Hp} {s : Shared} {l b : Addr} {xs ys zs : List V}

theorem Inv.lset {its its' : List Value} {n : Nat} {f : Array Value → Array Value} {t' : Nat} (I : Inv X pins σ H s) (hH : H l = some (.lst xs))
    (e : s.heap.get? l = some { cls := .type "list", data := .seq its.toArray n }) (hf : f its.toArray = its'.toArray) (hv : Vals ys its') (hz : ys.length ≤ sizeLine) :
    Inv X pins σ (upd H l (.lst ys)) { s with heap := s.heap.update l (Obj.mapSeq f), toks := t' } := by
  have q := PySem.IsL.update e f
  rw [hf] at q
  refine I.write (x := l) (e := l) (by rw [hH]; exact trivial) (.inl rfl) (fun b' u hb hu => (Heap.get?_update_other s.heap (Obj.mapSeq f) (Ne.symm hb)).trans hu) ⟨_, q⟩ ?_
  exact ⟨hz, its', _, hv, q⟩
theorem Inv.lnew {its : List Value} {t' : Nat} (I : Inv X pins σ H s) (hv : Vals ys its) (hz : ys.length ≤ sizeLine) :
    Inv X pins σ (upd H s.heap.objs.size (.lst ys)) { s with heap := s.heap.push { cls := .type "list", data := .seq its.toArray }, toks := t' } :=
  I.laid (fun _ _ q => Heap.get?_push_of_some _ q) (Nat.le_refl _) ⟨hz, its, 0, hv, Heap.get?_push_size _ rfl⟩
theorem Inv.fresh (I : Inv X pins σ H s) : H s.heap.objs.size = none := I.hok.fresh (Nat.le_refl _)
theorem Inv.lstM (I : Inv X pins σ H s) (hH : H l = some (.lst xs)) : xs.length ≤ sizeLine ∧ ∃ (its : List Value) (n : Nat), Vals xs its ∧ xs.length = its.length ∧ s.heap.get? l = some { cls := .type "list", data := .seq its.toArray n } := by
  obtain ⟨z, its, n, r, e⟩ := I.hok l _ hH
  exact ⟨z, its, n, r, r.length, e⟩

theorem notLongL {n : Nat} (h : n ≤ sizeLine) : Builtin.List.listTooLong n = false := by
  unfold Builtin.List.listTooLong
  exact decide_eq_false (by omega)
end

section
variable {X : Cx}

def rAppend : V → List V → Hp → VK → Prop := fun x vs H Q => ∃ l xs y, x = .ref l ∧ vs = [y] ∧ H l = some (.lst xs) ∧ xs.length < sizeLine ∧ Q .non (upd H l (.lst (xs ++ [y])))
theorem mt_append : MtM X "list.append" rAppend := by
  intro pins s σ H x vs v us Q I rx rv h
  obtain ⟨l, xs, y, rfl, rfl, hH, hz, q⟩ := h
  cases rx
  obtain ⟨u, rfl, ru⟩ := rv.one
  obtain ⟨z, its, n, r, hl, e⟩ := I.lstM hH
  refine call_meets F.slot_list_append ⟨_, e, rfl⟩ F.entry_list_append (F.args_list_append_2 _ _) (PySem.list_append l its.toArray n u (by rw [List.size_toArray]; omega)) ⟨e, ?_⟩
  refine ⟨.non, _, I.lset (its' := its ++ [u]) hH e (by simp) (r.append (.cons ru .nil)) ?_, rfl, q⟩
  rw [List.length_append, List.length_singleton]
  omega

def rPop : V → List V → Hp → VK → Prop := fun x vs H Q => ∃ l xs y, x = .ref l ∧ vs = [] ∧ H l = some (.lst xs) ∧ xs[xs.length - 1]? = some y ∧ Q y (upd H l (.lst xs.dropLast))
theorem mt_pop : MtM X "list.pop" rPop := by
  intro pins s σ H x vs v us Q I rx rv h
  obtain ⟨l, xs, y, rfl, rfl, hH, hy, q⟩ := h
  cases rx
  have hus := rv.zero
  subst hus
  obtain ⟨z, its, n, r, hl, e⟩ := I.lstM hH
  obtain ⟨u, hu, ru⟩ := r.get hy
  have hy' : its.toArray[its.toArray.size - 1]? = some u := by
    show its.toArray[its.length - 1]? = some u
    rw [← Array.getElem?_toList, ← hl]
    exact hu
  refine call_meets F.slot_list_pop ⟨_, e, rfl⟩ F.entry_list_pop (F.args_list_pop_1 _) (MeetsSeq.list_pop_last l its.toArray n u hy' (by rw [List.size_toArray]; omega)) ⟨e, ?_⟩
  refine ⟨y, _, I.lset (its' := its.dropLast) hH e ?_ r.dropLast ?_, ru, q⟩
  · show its.toArray.eraseIdxIfInBounds (its.toArray.size - 1) = its.dropLast.toArray
    rw [List.size_toArray, List.eraseIdxIfInBounds_toArray, erase_last]
  · rw [List.length_dropLast]
    omega

def rCat : R2 := fun x y H Q => ∃ l b xs zs, x = .ref l ∧ y = .ref b ∧ H l = some (.lst xs) ∧ H b = some (.lst zs) ∧ xs.length + zs.length ≤ sizeLine ∧ ∀ p, H p = none → Q (.ref p) (upd H p (.lst (xs ++ zs)))
theorem op_cat : OpR X (binaryOp .Add) rCat := by
  intro pins s σ H x y v u Q I rx ry h
  obtain ⟨l, b, xs, zs, rfl, rfl, hH, hB, hz, q⟩ := h
  cases rx
  cases ry
  obtain ⟨z, its, n, r, hl, e⟩ := I.lstM hH
  obtain ⟨z2, its2, n2, r2, hl2, e2⟩ := I.lstM hB
  refine PySem.P.add_list e e2 ?_ (by rw [List.size_toArray, List.size_toArray]; omega)
  have ea : its.toArray ++ its2.toArray = (its ++ its2).toArray := by simp
  rw [ea]
  exact ⟨.ref _, _, I.lnew (t' := s.toks) (r.append r2) (by rw [List.length_append]; omega), rfl, q _ I.fresh⟩
def rRep : R2 := fun x y H Q => ∃ l k xs, x = .ref l ∧ y = .int k ∧ H l = some (.lst xs) ∧ -(2 ^ 63) ≤ k ∧ k < 2 ^ 63 ∧ xs.length * k.toNat ≤ sizeLine ∧
  ∀ p, H p = none → Q (.ref p) (upd H p (.lst (List.replicate k.toNat xs).flatten))
theorem len_rep {α : Type} (xs : List α) (k : Nat) : (List.replicate k xs).flatten.length = k * xs.length := by
  induction k with
  | zero => simp
  | succ k ih => rw [List.replicate_succ, List.flatten_cons, List.length_append, ih, Nat.succ_mul, Nat.add_comm]
theorem op_rep : OpR X (binaryOp .Mult) rRep := by
  intro pins s σ H x y v u Q I rx ry h
  obtain ⟨l, k, xs, rfl, rfl, hH, h1, h2, hz, q⟩ := h
  cases rx
  obtain ⟨t, rfl⟩ := ry
  obtain ⟨z, its, n, r, hl, e⟩ := I.lstM hH
  have hlen : its.toArray.size * k.toNat ≤ sizeLine := by rw [List.size_toArray, ← hl]; exact hz
  have hcap : ¬ its.toArray.size * k.toNat > (2 ^ 63 - 1) / 8 := by
    have : (sizeLine : Nat) ≤ (2 ^ 63 - 1) / 8 := by decide
    omega
  have hfit : ¬ (!Builtin.List.listFitsIndex k) = true := by
    rw [fitsIndex_both h1 h2]
    exact Bool.false_ne_true
  have hlong : ¬ Builtin.List.listTooLong (its.toArray.size * k.toNat) = true := by
    rw [notLongL hlen]
    exact Bool.false_ne_true
  have hnew : List.foldl (fun x1 x2 => x1 ++ x2) #[] (List.replicate (if its.toArray.isEmpty = true then 0 else k.toNat) its.toArray) = (List.replicate k.toNat its).flatten.toArray := by
    have f0 : ∀ m : Nat, List.foldl (fun x1 x2 => x1 ++ x2) #[] (List.replicate m its.toArray) = (List.replicate m its).flatten.toArray := fun m => by
      have := foldl_rep its m []
      rw [List.nil_append] at this
      exact this
    rw [f0]
    cases its with
    | nil => simp
    | cons a r' => rw [if_neg (by simp)]
  refine wpAny_binaryOp_repeat_ref (T := "list") (U := "int") (by decide) ⟨_, e, rfl⟩ (fun s' => typeIs_int s' k t) noFill_list_mul F.fills_int_mul F.slot_int_rmul repeat_list F.slot_int_index.lookup
    (call_meets F.slot_int_rmul (typeIs_int s k t) F.entry_int_rmul (F.args_int_rmul_2 _ _) (int___rmul___int_list k t l its.toArray n)
      ⟨e, rfl, ⟨_, e, rfl⟩, call_meets F.slot_list_mul ⟨_, e, rfl⟩ F.entry_list_mul (F.args_list_mul_2 _ _) (AutoListH.list___mul___list_int_3 l its.toArray n k t hfit hcap hlong) ⟨e, ?_⟩⟩)
  rw [hnew]
  exact ⟨.ref _, _, I.lnew (t' := s.toks) (r.rep k.toNat) (by rw [len_rep, Nat.mul_comm]; exact hz), rfl, q _ I.fresh⟩

end

section
variable {prog : Program} {w : World} {A : Around} {E : Value → Shared → Prop} {s : Shared}
end

section
variable {X : Cx}
end
end L2

namespace Att
open PySem PySem.W PySem.Calls PyProof.Rows

theorem ints_of_wellAll {P : Params} {h : Heap} : ∀ (ns : List Int) (vs : List Value), WellAll P h vs (ns.map WData.int) → IntsAre vs ns := by
  intro ns
  induction ns with
  | nil =>
    intro vs w
    rw [List.map_nil] at w
    cases w
    exact .nil
  | cons n ns ih =>
    intro vs w
    rw [List.map_cons] at w
    cases w with
    | cons a b =>
      cases a
      exact .cons _ _ (ih _ b)

theorem script_of {l : OpenLaw} {n : Nat} (hn : l.most = some n) {P : Params} {h : Heap} {args : List WData} {vals : List Value}
    (hpre : l.row.toRowW.claim.pre args = true) (hwl : WellAll P h vals args) :
    ∃ a vs ns, vals = [Value.ref a] ∧ args = [WData.list (ns.map WData.int)] ∧ h.get? a = some { cls := .type "list", data := .seq vs.toArray } ∧ IntsAre vs ns ∧ ns.length ≤ n := by
  have hsh : WShape.hasAll [] args [.list .int] = true := (pre_splitW hpre).1
  have hc : l.pre.holds [] { args := args } = true := (pre_splitW hpre).2
  obtain ⟨d, r, rfl, h1, h2⟩ := hasAllW_cons hsh
  obtain rfl := hasAllW_nil h2
  obtain ⟨xs, rfl, h3⟩ := hasW_list h1
  obtain ⟨ns, rfl⟩ := items_int h3
  have hlen : ns.length ≤ n := by
    unfold OpenLaw.pre at hc
    have h4 : (WTm.not (.lt (.lit (.int (n : Int))) (.len (.arg 0)))).holds [] { args := [.list (ns.map .int)] } = true := by
      have h4 := (holds_andW hc).1
      rw [hn] at h4
      exact h4
    have h5 := condW_of h4 (w_not (w_lt w_lit (w_len_list (w_arg rfl))))
    rw [List.length_map] at h5
    refine Nat.le_of_not_lt fun q => ?_
    have q' : (n : Int) < ((ns.length : Nat) : Int) := by omega
    first
      | (rw [decide_eq_true q'] at h5; exact absurd h5 (by decide))
      | (simp at h5; omega)
  cases hwl with
  | cons w1 w2 =>
    cases w2
    cases w1 with
    | list ho hall => exact ⟨_, _, ns, rfl, rfl, ho, ints_of_wellAll ns _ hall, hlen⟩

theorem post_true (l : OpenLaw) (args : List WData) : l.row.toRowW.claim.post args (.bool true) args = true :=
  postW_of (r := l.row.toRowW) (X := (true == true))
    (show WShape.has [] (.bool true) .bool = true by first | rfl | decide | simp [WShape.has, WShape.arms, WShape.armsAll])
    (show (WTm.eq .res (.lit (.bool true))).value [] { args := args, res := some (.bool true), after := args } = some (.bool (true == true)) from w_eq_bool (w_res rfl) w_lit) rfl

theorem attach_call {l : OpenLaw} {n : Nat} {q : Program} {loose : List Str} {XP : (Str → Option Value) → Heap → Prop} {YP : World → Heap → Prop} {d : DefRec}
    (hn : l.most = some n) (hdf : d.params.defaults = [])
    (call : ∀ (w : World) (s₀ s₁ : Shared) (mg mb : Str → Option Value) (fa : Addr) (o : Obj) (pm cd doc : Value) (a : Addr) (vs : List Value) (ns : List Int),
      Ground q loose [] XP w s₀ mg mb s₁.heap → YP w s₁.heap →
      s₁.heap.get? fa = some o → o.data = .func (docDef d.name d.params d.body d.scope pm cd doc) → s₁.heap.CodeRec cd d.name → mg d.name = some (.ref fa) →
      s₁.heap.get? a = some { cls := .type "list", data := .seq vs.toArray } → IntsAre vs ns → ns.length ≤ n → s₁.gens = #[] →
      codeAny (model l.prog w) callerA (.call (.ref fa) ⟨[.ref a], []⟩) (fun r s' => r = .ok (.ret (.bool true)) ∧ OldK s₁.heap s'.heap ∧ s'.os = s₁.os ∧ AllBare s'.gens) s₁) :
    WalkO q loose XP YP l.row.toRowW d [] (fun f vs => PySem.call f vs) := by
  intro w s₀ s₁ mg mb G Y fa o pm cd doc dV kV ho hd hcd hD hmg hg args vals as hpre hlay hrd hwl hlo
  obtain rfl : dV = .none := Dflts.none hD hdf
  obtain rfl : kV = .none := Dflts.noKw hD
  obtain ⟨a, vs, ns, rfl, rfl, hobj, hints, hlen⟩ := script_of hn hpre hwl
  refine enter_call (codeAny_mono (call w s₀ s₁ mg mb fa o pm cd doc a vs ns G Y ho (fd_plain hd) hcd hmg hobj hints hlen hg) fun r s' hq => ?_)
  obtain ⟨rfl, h2, h3, h4⟩ := hq
  exact ⟨.inl ⟨.bool true, .bool true, [], rfl, fun _ => rfl, .bool true, post_true l _, fun _ => ⟨List.Pairwise.nil, fun _ hm => (nomatch hm)⟩⟩, h2, h3, h4⟩

section
variable {prog : Program} {w : World} {A : Around} {E : Value → Shared → Prop} {s : Shared} {K : Frag}

end
end Att

namespace L2
open PySem PySem.Spec PyProof.Rows

theorem vals_ints : ∀ {vs : List Value} {ns : List Int}, IntsAre vs ns → Vals (ns.map V.int) vs
  | _, _, .nil => .nil
  | _, _, .cons n t h => .cons ⟨t, rfl⟩ (vals_ints h)

def Only (H : Hp) : Prop := ∀ b, H b = none ∨ ∃ o xs, H b = some (.frz o (.lst xs))

theorem law_call {P : Program} {w : World} {K : PySem.W.Frag} {mg mb : Str → Option Value} {CX : CXT} {k : Nat} {fa a : Addr} {fd : FuncData} {x : Str} {sp : Sp} {s₁ : Shared} {vs : List Value} {ns : List Int}
    (KX : K.In s₁.heap) (hns : s₁.heap.Ns mainGlobals mg) (hb : s₁.heap.Ns builtinsNs mb) (hbb : ∀ x : Str, x ≠ "__name__" → mb x = bootBuiltins x) (hlim : s₁.heap.NoLimit) (hg : s₁.gens = #[])
    (ha : s₁.heap.get? a = some { cls := .type "list", data := .seq vs.toArray }) (hi : IntsAre vs ns) (hl : ns.length ≤ sizeLine) (hr : Room k callerA)
    (F : ∀ base : Heap, K.In base → base.Ns mainGlobals mg → FnOk P w K mg base CX k fa fd [x] sp) (hbind : ∀ (s : Shared) (u : Value), BindsTo s fd ⟨[u], []⟩ [(x, u)])
    (hsp : ∀ H : Hp, Only H → SqL K H a (ns.map V.int) → sp [.ref a] H (fun v _ => v = .bl true) fun _ _ _ => False)
    (hCX : ∀ H e s', CX [] H s₁ (fun _ _ _ => False) e s' → False) :
    codeAny (model P w) callerA (.call (.ref fa) ⟨[.ref a], []⟩) (fun r s' => r = .ok (.ret (.bool true)) ∧ OldK s₁.heap s'.heap ∧ s'.os = s₁.os ∧ AllBare s'.gens) s₁ := by
  have rv := vals_ints hi
  have lenV := hi.length
  -- from an abstract heap in which nothing but the script may be tracked
  have core : ∀ H : Hp, Only H → SqL K H a (ns.map V.int) → HOk P w H s₁.heap → (∀ b, H b ≠ none → b = a) → (H a ≠ none → K.lookup a = none) →
      codeAny (model P w) callerA (.call (.ref fa) ⟨[.ref a], []⟩) (fun r s' => r = .ok (.ret (.bool true)) ∧ OldK s₁.heap s'.heap ∧ s'.os = s₁.os ∧ AllBare s'.gens) s₁ := by
    intro H hO hS hok hA hK
    have base_of : ∀ {b : Addr} {o : Obj}, s₁.heap.get? b = some o → H b = none → (hidT s₁.heap H).get? b = some o := fun e n => hidT_get e n
    have noA : ∀ {b : Addr} {o : Obj} {es : Array DictEntry} {ep : Nat}, s₁.heap.get? b = some o → o.data = .dict es ep → H b = none := fun {b o es ep} e d => by
      cases q : H b with
      | none => rfl
      | some u =>
        have e' : b = a := hA b (by rw [q]; simp)
        subst e'
        rw [ha] at e; cases e
        have d' : Data.seq vs.toArray _ = Data.dict es ep := d
        cases d'
    have nsK : ∀ {b : Addr} {m : Str → Option Value}, s₁.heap.Ns b m → (hidT s₁.heap H).Ns b m := fun {b m} ⟨o, es, ep, e, d, r⟩ => ⟨o, es, ep, base_of e (noA e d), d, r⟩
    have hKb : K.In (hidT s₁.heap H) := fun b o e => base_of (KX b o e) (by
      cases q : H b with
      | none => rfl
      | some u =>
        have e' : b = a := hA b (by rw [q]; simp)
        subst e'
        rw [hK (by rw [q]; simp)] at e; cases e)
    have hM : Mod K mg (hidT s₁.heap H) := ⟨hKb, nsK hns, ⟨mb, nsK hb, hbb⟩, let ⟨mc, h1, h2⟩ := hlim; ⟨mc, nsK h1, h2⟩⟩
    have e0 : Env0 P w K mg (hidT s₁.heap H) callerA [] s₁ H := ⟨rfl, hM, fun b o e => of_hidT e, Nat.le_of_eq (hidT_size _ _), trivial, fun b hb => absurd (show b ∈ ([] : List Addr) from hb) (by simp), hok, .of_eq hg⟩
    refine codeAny_mono ((F _ hKb (nsK hns)).run callerA [] s₁ H ⟨[.ref a], []⟩ [.ref a] [.ref a] _ _ hr e0 (hbind s₁ (.ref a)) (.cons rfl .nil) (hsp H hO hS)) fun r s' h => ?_
    cases r with
    | error e => exact (hCX H e s' h).elim
    | ok fl =>
      cases fl with
      | next => exact False.elim h
      | brk => exact False.elim h
      | cont => exact False.elim h
      | ret u =>
        obtain ⟨v, H', os, bare, un, hok', r', q⟩ := h
        have q' : v = .bl true := q
        subst q'
        obtain rfl : u = Value.bool true := r'
        refine ⟨rfl, OldK.of_keep fun b o e => ?_, os, bare⟩
        cases q : H b with
        | none => exact un.keep b o e q (by intro z; exact absurd (show b ∈ ([] : List Addr) from z) (by simp)) (by simp)
        | some u =>
          rcases hO b with z | ⟨ob, xs, z⟩
          · rw [q] at z; cases z
          · have z2 := un.frzs b ob _ z
            obtain ⟨e1, _⟩ := hok b _ z
            obtain ⟨e2, _⟩ := hok' b _ z2
            rw [e] at e1; cases e1
            exact e2
  cases hk : K.lookup a with
  | some o =>
    -- the script is one of the module's own objects
    have e := KX a o hk
    rw [ha] at e
    cases e
    refine core (fun _ => none) (fun _ => .inl rfl) (.inr ⟨_, vs.toArray, _, hk, rfl, rfl, rfl, by rw [List.size_toArray, lenV]; exact hl, by simpa using rv⟩) (fun b u z => by have z' : (none : Option HO) = some u := z; cases z') (fun b z => absurd rfl z) fun z => absurd rfl z
  | none =>
    refine core (fun b => if b = a then some (.frz { cls := .type "list", data := .seq vs.toArray } (.lst (ns.map V.int))) else none) (fun b => ?_) (.inl (.inr ⟨{ cls := .type "list", data := .seq vs.toArray }, if_pos rfl⟩)) (fun b u z => ?_) (fun b z => ?_) fun _ => hk
    · by_cases hb : b = a
      · exact .inr ⟨_, _, if_pos hb⟩
      · exact .inl (if_neg hb)
    · by_cases hb : b = a
      · have z' := (if_pos hb).symm.trans z
        cases z'
        subst hb
        exact ⟨ha, by rw [List.length_map]; exact hl, vs, _, rv, ha⟩
      · have z' := (if_neg hb).symm.trans z
        cases z'
    · by_cases hb : b = a
      · exact hb
      · exact absurd (if_neg hb) z
end L2

namespace L2
open PySem PySem.Spec PyProof.Rows

abbrev KOf {K : PySem.W.Frag} {h : Heap} (_ : K.In h) : PySem.W.Frag := K

theorem walk_of {l : PySem.W.OpenLaw} {n k : Nat} {q : Program} {loose : List Str} {XP : (Str → Option Value) → Heap → Prop} {YP : World → Heap → Prop} {d : DefRec} {K : Params → PySem.W.Frag} {CX : World → CXT} {sp : World → Sp} {x : Str}
    (hn : l.most = some n) (hn2 : n ≤ sizeLine) (hdf : d.params.defaults = []) (hr : Room k callerA)
    (hY : ∀ (w : World) (h : Heap), YP w h → (K w.params).In h)
    (F : ∀ (w : World) (mg : Str → Option Value) (fa : Addr) (h : Heap), (K w.params).In h → h.Ns mainGlobals mg → mg d.name = some (.ref fa) →
      ∃ fd : FuncData, (∀ (s : Shared) (u : Value), BindsTo s fd ⟨[u], []⟩ [(x, u)]) ∧
        ∀ base : Heap, (K w.params).In base → base.Ns mainGlobals mg → FnOk l.prog w (K w.params) mg base (CX w) k fa fd [x] (sp w))
    (hsp : ∀ (w : World) (H : Hp) (a : Addr) (ns : List Int), ns.length ≤ n → Only H → SqL (K w.params) H a (ns.map V.int) → sp w [.ref a] H (fun v _ => v = .bl true) fun _ _ _ => False)
    (hCX : ∀ (w : World) (H : Hp) (s : Shared) (e : Value) (s' : Shared), CX w [] H s (fun _ _ _ => False) e s' → False) :
    PySem.W.WalkO q loose XP YP l.row.toRowW d [] (fun f vs => PySem.call f vs) := by
  refine Att.attach_call hn hdf fun w s₀ s₁ mg mb fa o pm cd doc a vs ns G Y ho hd hcd hmg hobj hints hlen hg => ?_
  have KX := hY w _ Y
  obtain ⟨fd, hb, hF⟩ := F w mg fa _ KX G.T.g hmg
  exact law_call KX G.T.g G.T.b G.T.builtins G.T.nolimit hg hobj hints (Nat.le_trans hlen hn2) hr hF hb (fun H hO hS => hsp w H a ns hlen hO hS) fun H e s' => hCX w H s₁ e s'
end L2

/- THE LAST THEOREM (shape; LID, My.* are yours):
   My.Adr: a structure of the addresses that your layer names (classes, functions); My.Txt K t: a structure (Prop) of the equations over K;
   My.txt_mk : {K} {implicit addresses ..} (e1 : nsIn K mainGlobals "law" = some (some (.ref f))) (e2 : K.lookup f = some ⟨oc, od, .func (fnOf "law" "law" params body scope dV kV doc pm an cdv ct), sl⟩) (e3 : codeIn K cdv "law" = true) .. : ∃ t, My.Txt K t

set_option maxRecDepth 100000 in
set_option maxHeartbeats 0 in
theorem PySem.Challenge.cw_LID_holds : PySem.Challenge.rw_LID.Holds := by
  w_on; o_law; k_head; (case hw => w_witness2)
  k_fill
  refine L2.walk_of (l := PySem.Challenge.rw_LID) (n := 63) (k := 40) (x := "script") (CX := fun w => ..) (sp := fun _ => My.sp_law) rfl (by decide) rfl ⟨rfl, by decide, by decide⟩ (fun w h Y => PySem.W.kIn_of Y) ?F ?S ?C
  case F =>
    intro w mg fa h KX G hmg
    have T : ∃ t, My.Txt (L2.KOf KX) t := by
      dsimp only [L2.KOf]                          -- K must stand as «<heap const> w.params» for k_is
      refine' My.txt_mk ?e1 ?e2 ?e3 ..
      (case e1 => PySem.W.k_is)                    -- in the order: a name -> its address -> its object -> its parts
      (case e2 => PySem.W.k_is)
      ..
    obtain ⟨t, T⟩ := T
    have e0 := hmg.symm.trans (PySem.W.mg_of KX G T.law)
    cases e0                                       -- fa is the law's own address
    exact ⟨_, fun s u => .of_eq rfl, fun base kb nb => My.law_fn T kb nb⟩     -- if «.of_eq rfl» comes too early: refine' ⟨_, ?b, fun base kb nb => My.law_fn T kb nb⟩; exact fun s u => .of_eq rfl
  case S => exact fun w H a ns hl hO hS => ..
  case C => exact ..
(the tactic k_is has no namespace: write k_is) -/

namespace L2
open PySem PySem.Spec PyProof.Rows

def defArgs (s : Stmt) : Arguments := match s with
  | .FunctionDef _ a _ _ _ _ _ _ _ _ => a
  | _ => { posonlyargs := [], args := [], vararg := none, kwonlyargs := [], kw_defaults := [], kwarg := none, defaults := [] }
def defBody (s : Stmt) : List Stmt := match s with
  | .FunctionDef _ _ b _ _ _ _ _ _ _ => b
  | _ => []
def defScope (s : Stmt) : Scope := match s with
  | .FunctionDef _ _ _ _ _ _ sc _ _ _ => sc
  | _ => { kind := .function, names := [], isGenerator := false, isCoroutine := false }

abbrev CX0 : CXT := fun _ _ _ _ _ _ => False
abbrev E0 : XK := fun _ _ _ => False
theorem pass0 {X : Cx} : Passes CX0 X E0 := fun _ _ _ _ _ _ _ h => h.elim

structure Fun (K : PySem.W.Frag) (x qual : Str) (st : Stmt) (f : Addr) (fd : FuncData) : Prop where
  ex : ∃ (oc : Value) (od : Option Addr) (kV doc pm : Value) (an : Option Addr) (cdv ct : Value) (osl : Array (Option Value)),
    fd = PySem.W.fnOf x qual (defArgs st) (defBody st) (defScope st) .none kV doc pm an cdv ct ∧ K.lookup f = some ⟨oc, od, .func fd, osl⟩ ∧ PySem.W.codeIn K cdv qual = true
  kp : PySem.W.keepIn K (.ref f) = true
section
variable {P : Program} {w : World} {K : PySem.W.Frag} {mg : Str → Option Value} {base : Heap}
theorem Fun.ok {x qual : Str} {st : Stmt} {f : Addr} {fd : FuncData} {N ps : List Str} {k : Nat} {sp : Sp} (F : Fun K x qual st f fd) (S : FnScope N ps (defScope st)) (len : ∀ vs H Q E, sp vs H Q E → vs.length = ps.length)
    (hbody : ∀ (cdv : Value) (A : Around) (outer : List Env) (s : Shared) (H : Hp) (vs : List V) (Q : VK) (E : XK), Room k (A.deeper (envOfC qual (defScope st) s.heap.objs.size f cdv)) → sp vs H Q E →
      ∃ t, PSs (cxOf CX0 P w K mg base N qual (defScope st) f cdv A outer s H E).nox (defBody st) t ∧ t { nx := fun _ H' => Q .non H', rt := Q } (start N vs) H) : FnOk P w K mg base CX0 (k + 1) f fd ps sp := by
  obtain ⟨oc, od, kV, doc, pm, an, cdv, ct, osl, rfl, lk, hcd⟩ := F.ex
  refine fn_of lk hcd S len fun A outer s H vs Q E hr hsp => ?_
  obtain ⟨t, h, q⟩ := hbody cdv A outer s H vs Q E hr hsp
  exact ⟨t, h.nox, q⟩
theorem Fun.binds {x qual : Str} {st : Stmt} {f : Addr} {fd : FuncData} {ps : List Str} (F : Fun K x qual st f fd)
    (h : ∀ (kV doc pm : Value) (an : Option Addr) (cdv ct : Value) (us : List Value), us.length = ps.length → bindArgs (PySem.W.fnOf x qual (defArgs st) (defBody st) (defScope st) .none kV doc pm an cdv ct) ⟨us, []⟩ = pure (ps.zip us)) : Binds K fd ps [] := by
  obtain ⟨oc, od, kV, doc, pm, an, cdv, ct, osl, rfl, lk, hcd⟩ := F.ex
  exact .all (h kV doc pm an cdv ct)
theorem fun_mk {x qual : Str} {st : Stmt} {f : Addr} {oc : Value} {od an : Option Addr} {osl : Array (Option Value)} {kV doc pm cdv ct : Value} (l : K.lookup f = some ⟨oc, od, .func (PySem.W.fnOf x qual (defArgs st) (defBody st) (defScope st) .none kV doc pm an cdv ct), osl⟩)
    (c : PySem.W.codeIn K cdv qual = true) (k : PySem.W.keepIn K (.ref f) = true) : Fun K x qual st f (PySem.W.fnOf x qual (defArgs st) (defBody st) (defScope st) .none kV doc pm an cdv ct) := ⟨⟨oc, od, kV, doc, pm, an, cdv, ct, osl, rfl, l, c⟩, k⟩
end
theorem small1000 {n : Nat} (h : n ≤ 1000) : n < sizeLine := Nat.lt_of_le_of_lt h (by decide)

section
variable {X : Cx}
theorem pv (i : Nat) {x : Str} {pos : Pos} (hN : X.N[i]? = some x := by rfl) (hv : Vis X.env.scope x := by first | exact Or.inl rfl | exact Or.inr (Or.inl rfl) | exact Or.inr (Or.inr rfl)) (hd : (x == ("__debug__" : Str)) = false := by decide)
    (hcd : (x == ("__classdict__" : Str)) = false := by decide) : PE X (.Name x pos) (tVar i) := pe_var hN hv hd hcd
end

theorem iteF {A B : Prop} (h : B) : if false = true then A else B := by
  rw [if_neg Bool.false_ne_true]
  exact h
theorem iteT {A B : Prop} (h : A) : if true = true then A else B := by
  rw [if_pos rfl]
  exact h
theorem ite2 {c A B : Prop} [Decidable c] (h1 : c → A) (h2 : ¬ c → B) : if c then A else B := by
  by_cases h : c
  · rw [if_pos h]
    exact h1 h
  · rw [if_neg h]
    exact h2 h
def Same (H H' : Hp) : Prop := ∀ b o, H b = some o → H' b = some o
theorem Same.refl (H : Hp) : Same H H := fun _ _ h => h
theorem Same.trans {H H1 H2 : Hp} (a : Same H H1) (b : Same H1 H2) : Same H H2 := fun c o h => b c o (a c o h)
theorem Same.free {H H' : Hp} (e : Same H H') {l : Addr} (h : H' l = Option.none) : H l = Option.none := by
  cases q : H l with
  | none => rfl
  | some o =>
    rw [e l o q] at h
    cases h
theorem Same.seq {K : PySem.W.Frag} {H H' : Hp} {a : Addr} {xs : List V} (e : Same H H') (h : SqL K H a xs) : SqL K H' a xs := by
  rcases h with (h | ⟨o, h⟩) | h
  · exact .inl (.inl (e _ _ h))
  · exact .inl (.inr ⟨o, e _ _ h⟩)
  · exact .inr h

end L2
set_option maxHeartbeats 4000000
namespace L2
open PySem PySem.Spec PyProof.Rows

def Itv (K : PySem.W.Frag) (a : Addr) (n : Nat) : It :=
  ⟨fun i H => i < n ∧ ∃ xs x, SqL K H a xs ∧ xs[n - 1 - i]? = some x, fun i H x H' => H' = H ∧ ∀ xs, SqL K H a xs → xs[n - 1 - i]? = some x, fun i _ => i = n⟩
theorem turn_rev {P : Program} {w : World} {K : PySem.W.Frag} {tg : Expr} (a it : Addr) (n : Nat) : Turn P w K tg (Itv K a n) [it] it (fun i h => i ≤ n ∧ h.IsRevIter it a ((n : Int) - 1 - (i : Int))) where
  mem := by simp
  obj := fun i h st b hb => by
    have e : b = it := by simpa using hb
    subst e
    obtain ⟨o, e, c, d⟩ := st.2
    exact ⟨o, e, fun v z => by rw [d] at z; cases z⟩
  keep := fun i h h' st k => ⟨st.1, st.2.at fun o e => k it (by simp) o e⟩
  item := by
    intro X hP hw hK hc i pins s σ H E I hf st hg
    subst hP hw hK
    obtain ⟨hi, xs, x, hq, hx⟩ := hg
    obtain ⟨its, rv, p, hz⟩ := I.list hq
    obtain ⟨u, hu, ru⟩ := rv.get hx
    obtain ⟨f0, f1, f2, f3, f4, f5⟩ := hf it (by simp)
    have e1 : (n : Int) - 1 - (i : Int) = ((n - 1 - i : Nat) : Int) := by omega
    have e2 : ((n - 1 - i : Nat) : Int) - 1 = (n : Int) - 1 - ((i + 1 : Nat) : Int) := by omega
    have st2 := st.2
    rw [e1] at st2
    refine wpAny_pyNext_rev_item st2 p.isList (x := u) (by simpa using hu) fun h' st' sb => ?_
    rw [e2] at st'
    have I1 : Inv X pins σ H { s with heap := h' } := I.turned (t' := s.toks) (fun b o hb e => (sb.2 b hb).trans e) f0 f1 f3 f4 f5
    obtain ⟨o, e, c, d⟩ := id st'
    exact ⟨u, rfl, go_of (s := { s with heap := h' }) e c d (by decide) ⟨x, H, I1, ru, ⟨rfl, fun ys hy => by rw [I.list_inj hy hq]; exact hx⟩, ⟨hi, st'⟩, fun b hb => (hf b hb).1⟩⟩
  done := by
    intro X hP hw hK hc i pins s σ H E I hf st hg
    subst hP hw hK
    have hg' : i = n := hg
    subst hg'
    obtain ⟨f0, f1, f2, f3, f4, f5⟩ := hf it (by simp)
    have e1 : (i : Int) - 1 - (i : Int) = -1 := by omega
    have st2 := st.2
    rw [e1] at st2
    exact wpAny_pyNext_rev_end (I.ok.hd hc) st2 fun h' eb => ⟨rfl, I.turned (t' := s.toks) (fun b o hb e => eb b o hb e) f0 f1 f3 f4 f5⟩
  self := fun _ _ _ _ _ st h => wpAny_pyIter_revIter st.2 h
section
variable {X : Cx} {tg : Expr}
def iRev (K : PySem.W.Frag) (ta : TA) : TI := fun σ H R => ta σ H fun vs H1 => ∃ a xs, vs = [.ref a] ∧ SqL K H1 a xs ∧ R (Itv K a xs.length) H1
theorem pi_rev {a : Expr} {ta : TA} {p pos : Pos} (hg : Gl X "reversed") (hm : X.mg "reversed" = none) (ha : PA X [a] ta) (hs : starEach [a] X.env = [(false, eval a X.env)] := by rfl) : PI X tg (.Call (.Name "reversed" p) [a] [] pos) (iRev X.K ta) := by
  intro pins s σ H R I h
  refine Call_ (ld_blt I hg hm PyProof.Rows.boot_reversed (PyProof.Rows.callWith_type1 (thn (ha pos pins s σ H _ I h) fun us s1 ⟨vs, H1, I1, r1, q1⟩ => ?_) hs rfl))
  obtain ⟨a, xs, rfl, hq, q⟩ := q1
  obtain ⟨u, rfl, ru⟩ := vals1 r1
  cases ru
  obtain ⟨its, rv, p, hz⟩ := I1.list hq
  have hlen : its.toArray.size = xs.length := by rw [List.size_toArray]; exact rv.length.symm
  refine call_reversed_list p.isList ?_
  rw [hlen]
  have hit : (s1.heap.push (revObj a ((xs.length : Int) - 1))).IsRevIter s1.heap.objs.size a ((xs.length : Int) - 1) := ⟨_, Heap.get?_push_size _ rfl, rfl, rfl⟩
  refine wpAny_pyIter_revIter (s := { s1 with heap := s1.heap.push (revObj a ((xs.length : Int) - 1)) }) hit ?_
  refine ⟨s1.heap.objs.size, [s1.heap.objs.size], _, _, H1, rfl, I1.kept (t' := s1.toks) fun b o e => Heap.get?_push_of_some _ e, turn_rev a _ xs.length, ⟨Nat.zero_le _, ?_⟩, fun b hb => ?_, q⟩
  · have e : (xs.length : Int) - 1 - ((0 : Nat) : Int) = (xs.length : Int) - 1 := by omega
    rw [e]
    exact hit
  · have e : b = s1.heap.objs.size := by simpa using hb
    subst e
    exact I1.fpOk (Nat.le_refl _) (I1.hok.fresh (Nat.le_refl _))
end
def tRev (K : PySem.W.Frag) (te : TE) (ts : TO) : TE := fun σ H Q => te σ H fun x H1 => ts σ H1 fun o H2 => o = some (-1) ∧ ∃ a xs, x = .ref a ∧ SqL K H2 a xs ∧ ∀ p, H2 p = none → Q (.ref p) (upd H2 p (.lst xs.reverse))
section
variable {X : Cx} {e st : Expr} {te : TE} {ts : TO} {pos p2 : Pos}
theorem pe_rev (he : PE X e te) (hst : PO X (some st) ts) : PE X (.Subscript e (.Slice none none (some st) p2) pos) (tRev X.K te ts) := by
  intro pins s σ H Q I h
  refine Subscript_ (thn (he pins s σ H _ I h) fun v s1 ⟨x, H1, I1, r1, q1⟩ => ?_)
  refine wpAny_Slice ?_
  rw [evalPart_none]
  refine wpAny_pure (wpAny_pure ?_)
  refine thn (hst pins s1 σ H1 _ I1 q1) fun vk s3 ⟨o, H3, I3, pk, q3⟩ => ?_
  obtain ⟨rfl, a, xs, rfl, hx, q⟩ := q3
  cases r1
  have I4 : Inv X pins σ H3 { s3 with heap := s3.heap.push { cls := .type "slice", data := .fields #[.none, .none, vk] } } := I3.kept (t' := s3.toks) fun b ob q => Heap.get?_push_of_some _ q
  obtain ⟨its, r, ht, hz⟩ := I4.list hx
  have hlen := r.length
  show wpAny (model X.prog X.w) X.A (subscriptTail e (.Slice none none (some st) p2) (.ref a) (.ref s3.heap.objs.size)) (EP X pins σ Q) X.xe { s3 with heap := s3.heap.push { cls := .type "slice", data := .fields #[.none, .none, vk] } }
  refine tail_any (ops := [.ref a, .ref s3.heap.objs.size]) ht.isList.typeIs slot_list_getitem.lookup ?_ (by with_unfolding_all rfl)
  refine wpAny_getItem_list_slice ht.isList (Heap.IsSliceOf.new ..) .none .none pk (by decide) ?_ (by rw [List.size_toArray] <;> omega)
  rw [PySem.W.krv_pick]
  refine ⟨.ref _, _, I4.laid (t' := s3.toks) (o := .lst xs.reverse) (fun b ob q => Heap.get?_push_of_some _ q) (Nat.le_refl _) ?_, rfl, q _ (I4.hok.fresh (Nat.le_refl _))⟩
  exact ⟨by rw [List.length_reverse]; exact hz, _, 0, r.reverse, Heap.get?_push_size _ rfl⟩
end
section
variable {X : Cx}
theorem boot_isin : bootBuiltins "isinstance" = some (.builtin "isinstance") := by decide +kernel
theorem call_isin : CallR X (.builtin "isinstance") (fun xs H Q => ∃ x t T b, xs = [x, .ty T] ∧ TyOf X.K H x t ∧ PySem.W.kitOne X.K t (.type T) = some b ∧ Q (.bl b) H) := by
  intro pins s σ H xs us Q I r h
  obtain ⟨x, t, T, b, rfl, ty, e, q⟩ := h
  obtain ⟨u, w', rfl, ru, rw'⟩ := vals2 r
  cases (show w' = Value.type T from rw')
  exact isinst_ok I ru ty e fun tk => ⟨.bl b, H, I.tok _, rfl, q⟩
theorem kit_int_int (K : PySem.W.Frag) : PySem.W.kitOne K (.type "int") (.type "int") = some true := by rfl
theorem kit_list_list (K : PySem.W.Frag) : PySem.W.kitOne K (.type "list") (.type "list") = some true := by rfl
theorem kit_int_bool (K : PySem.W.Frag) : PySem.W.kitOne K (.type "int") (.type "bool") = some false := by
  have e1 : PySem.W.kitMeta "bool" = true := by decide +kernel
  have e2 : (fastBuiltinMro "int").map (·.contains (Value.type "bool")) = some false := by decide +kernel
  show (if (Value.type "int" == Value.type "bool") = true then some true else if PySem.W.kitMeta "bool" = true then PySem.W.subIn K (.type "int") (.type "bool") else none) = some false
  rw [if_neg (by decide +kernel), if_pos e1]
  exact e2
theorem kit_str_str (K : PySem.W.Frag) : PySem.W.kitOne K (.type "str") (.type "str") = some true := by rfl
end
section
variable {X : Cx}
def rEqL (K : PySem.W.Frag) : R2 := fun x y H Q => ∃ (a b : Addr) (ns ms : List Int), x = .ref a ∧ y = .ref b ∧ SqL K H a (ns.map V.int) ∧ SqL K H b (ms.map V.int) ∧ Q (.bl (decide (ns = ms))) H
def rNeL (K : PySem.W.Frag) : R2 := fun x y H Q => ∃ (a b : Addr) (ns ms : List Int), x = .ref a ∧ y = .ref b ∧ SqL K H a (ns.map V.int) ∧ SqL K H b (ms.map V.int) ∧ Q (.bl (!decide (ns = ms))) H
theorem op_eqL (hu : X.A.units + 64 < cLine) : OpR X (compareOp .Eq) (rEqL X.K) := by
  intro pins s σ H x y v u Q I rx ry h
  obtain ⟨a, b, ns, ms, rfl, rfl, ha, hb, q⟩ := h
  cases rx
  cases ry
  obtain ⟨its, r, p, hz⟩ := I.list ha
  obtain ⟨its', r', p', hz'⟩ := I.list hb
  exact PySem.W.eq_intsK p.isList (intsAre_of r) p'.isList (intsAre_of r') hu ⟨.bl _, H, I, rfl, q⟩
theorem op_neL (hu : X.A.units + 64 < cLine) : OpR X (compareOp .NotEq) (rNeL X.K) := by
  intro pins s σ H x y v u Q I rx ry h
  obtain ⟨a, b, ns, ms, rfl, rfl, ha, hb, q⟩ := h
  cases rx
  cases ry
  obtain ⟨its, r, p, hz⟩ := I.list ha
  obtain ⟨its', r', p', hz'⟩ := I.list hb
  exact PySem.W.ne_intsK p.isList (intsAre_of r) p'.isList (intsAre_of r') hu ⟨.bl _, H, I, rfl, q⟩
end
end L2
namespace L2
open PySem PySem.Spec PyProof.Rows
abbrev iv (ns : List Int) : List V := ns.map V.int
theorem ints_len (ns : List Int) : (iv ns).length = ns.length := List.length_map _
theorem ints_get {ns : List Int} {i : Nat} {x : V} (h : (iv ns)[i]? = some x) : ∃ z, ns[i]? = some z ∧ x = .int z := by
  rw [List.getElem?_map] at h
  cases e : ns[i]? with
  | none => rw [e] at h; cases h
  | some z => rw [e] at h; exact ⟨z, rfl, (Option.some.inj h).symm⟩
theorem get_lt {α : Type} {xs : List α} {i : Nat} {z : α} (h : xs[i]? = some z) : i < xs.length := (List.getElem?_eq_some_iff.mp h).1
theorem drop_at {α : Type} {xs : List α} {i : Nat} {z : α} (h : xs[i]? = some z) : xs.drop i = z :: xs.drop (i + 1) := by
  obtain ⟨hi, e⟩ := List.getElem?_eq_some_iff.mp h
  rw [List.drop_eq_getElem_cons hi, e]
theorem take_at {α : Type} {xs : List α} {i : Nat} {z : α} (h : xs[i]? = some z) : xs.take (i + 1) = xs.take i ++ [z] := by
  rw [List.take_add_one, h]; rfl
theorem atI_ints {ns : List Int} {k : Int} (h0 : 0 ≤ k) (h : k < (ns.length : Int)) : atI (iv ns) k = some (.int (ns.getD k.toNat 0)) := by
  have hk : k.toNat < ns.length := by omega
  have e : k = ((k.toNat : Nat) : Int) := by omega
  have q : atI (iv ns) ((k.toNat : Nat) : Int) = some (.int (ns.getD k.toNat 0)) := by
    refine atI_nat ?_
    rw [List.getElem?_map, List.getElem?_eq_getElem hk, List.getD_eq_getElem?_getD, List.getElem?_eq_getElem hk]
    rfl
  rw [← e] at q
  exact q
theorem atI_end {α : Type} {xs : List α} {v : α} (h : xs.getLast? = some v) : atI xs (-1) = some v := by
  cases xs with
  | nil => cases h
  | cons x r =>
    unfold atI ixN
    rw [if_neg (by decide), if_pos (by rw [List.length_cons]; omega)]
    show (x :: r)[((-1 : Int) + ((x :: r).length : Int)).toNat]? = some v
    have e : ((-1 : Int) + ((x :: r).length : Int)).toNat = (x :: r).length - 1 := by rw [List.length_cons]; omega
    rw [e, ← List.getLast?_eq_getElem?]
    exact h
theorem last_ints {ns : List Int} {z : Int} (h : ns.getLast? = some z) : (iv ns).getLast? = some (.int z) := by
  rw [List.getLast?_map, h]; rfl
theorem cut_to (xs : List V) (k : Nat) : cutV xs none (some (k : Int)) = xs.take k := by
  unfold cutV
  rw [HT.sIx_nat]
  show (xs.drop 0).take (min k xs.length - 0) = xs.take k
  rw [List.drop_zero, Nat.sub_zero, List.take_eq_take_iff]
  omega
theorem cut_from (xs : List V) (k : Nat) : cutV xs (some (k : Int)) none = xs.drop k := by
  unfold cutV
  rw [HT.sIx_nat]
  show (xs.drop (min k xs.length)).take (xs.length - min k xs.length) = xs.drop k
  by_cases h : k ≤ xs.length
  · rw [Nat.min_eq_left h]
    exact List.take_of_length_le (by rw [List.length_drop]; omega)
  · rw [Nat.min_eq_right (by omega), List.drop_eq_nil_of_le (Nat.le_refl _), List.drop_eq_nil_of_le (by omega)]
    simp
theorem cut_mid (xs : List V) (a b : Nat) (h : a ≤ b) : cutV xs (some (a : Int)) (some (b : Int)) = (xs.drop a).take (b - a) := by
  unfold cutV
  rw [HT.sIx_nat, HT.sIx_nat]
  by_cases q : a ≤ xs.length
  · rw [Nat.min_eq_left q, List.take_eq_take_iff, List.length_drop]
    omega
  · rw [List.drop_eq_nil_of_le (show xs.length ≤ min a xs.length by omega), List.drop_eq_nil_of_le (show xs.length ≤ a by omega)]
    simp
theorem flat_rep (k : Nat) (z : Int) : (List.replicate k [V.int z]).flatten = iv (List.replicate k z) := by
  induction k with
  | zero => rfl
  | succ k ih => rw [List.replicate_succ, List.flatten_cons, ih, List.replicate_succ]; rfl
theorem ints_take (ns : List Int) (k : Nat) : (iv ns).take k = iv (ns.take k) := List.map_take.symm
theorem ints_drop (ns : List Int) (k : Nat) : (iv ns).drop k = iv (ns.drop k) := List.map_drop.symm
theorem ints_app (ns ms : List Int) : iv ns ++ iv ms = iv (ns ++ ms) := List.map_append.symm
theorem ints_rev (ns : List Int) : (iv ns).reverse = iv ns.reverse := List.map_reverse.symm
theorem ints_dropLast (ns : List Int) : (iv ns).dropLast = iv ns.dropLast := by rw [List.dropLast_eq_take, List.dropLast_eq_take, ints_take, ints_len]
theorem same_new {H : Hp} {p : Addr} (h : H p = none) (o : HO) : Same H (upd H p o) := fun b u q => by rw [upd_ne (ne_of_none q h)]; exact q
theorem small {n : Nat} (h : n ≤ 1000) : n ≤ sizeLine := Nat.le_of_lt (small1000 h)
theorem bigL {n : Nat} (h : n ≤ 100000) : n < sizeLine := by rw [sizeLine_eq]; omega
theorem big {n : Nat} (h : n ≤ 100000) : n ≤ sizeLine := Nat.le_of_lt (bigL h)
def But (l : Addr) (H H' : Hp) : Prop := ∀ b o, b ≠ l → H b = some o → H' b = some o
theorem But.refl (l : Addr) (H : Hp) : But l H H := fun _ _ _ h => h
theorem But.trans {l : Addr} {H H1 H2 : Hp} (a : But l H H1) (b : But l H1 H2) : But l H H2 := fun c o n h => b c o n (a c o n h)
theorem But.upd (l : Addr) (H : Hp) (o : HO) : But l H (upd H l o) := fun b u n q => by rw [upd_ne n]; exact q
theorem Same.but {l : Addr} {H H' : Hp} (a : Same H H') : But l H H' := fun b o _ h => a b o h
theorem But.seq {K : PySem.W.Frag} {l a : Addr} {H H' : Hp} {xs : List V} (e : But l H H') (n : a ≠ l) (h : SqL K H a xs) : SqL K H' a xs := by
  rcases h with h | h
  · rcases h with h | ⟨o, h⟩
    · exact .inl (.inl (e a _ n h))
    · exact .inl (.inr ⟨o, e a _ n h⟩)
  · exact .inr h
theorem decT {c : Prop} [Decidable c] (h : c) : decide c = true := decide_eq_true h
theorem decF {c : Prop} [Decidable c] (h : ¬ c) : decide c = false := decide_eq_false h
theorem notT {b : Bool} (e : (!b) = true) : b = false := by cases b <;> simp_all
theorem notF {b : Bool} (e : (!b) = false) : b = true := by cases b <;> simp_all
theorem iteC {c : Bool} {A B : Prop} (e : c = true) (h : A) : if c = true then A else B := by rw [if_pos e]; exact h
theorem iteD {c : Bool} {A B : Prop} (e : c = false) (h : B) : if c = true then A else B := by rw [if_neg (by rw [e]; decide)]; exact h
def PuE (t : TE) (σ : St) (H : Hp) (v : V) : Prop := ∀ Q : VK, Q v H → t σ H Q
def PuT (t : TT) (σ : St) (H : Hp) (b : Bool) : Prop := ∀ Q : Bool → Hp → Prop, Q b H → t σ H Q
def PuA (t : TA) (σ : St) (H : Hp) (vs : List V) : Prop := ∀ Q : List V → Hp → Prop, Q vs H → t σ H Q
section
variable {σ : St} {H : Hp} {K : PySem.W.Frag}
theorem pu_var {i : Nat} {v : V} (h : σ[i]? = some (some v)) : PuE (tVar i) σ H v := fun _ q => ⟨v, h, q⟩
theorem pu_c {v : V} : PuE (tC v) σ H v := fun _ q => q
theorem pu_I0 {ta tb : TE} {g : Int → Int → V} {i j : Int} (ha : PuE ta σ H (.int i)) (hb : PuE tb σ H (.int j)) : PuE (tOp (rI0 g) ta tb) σ H (g i j) := fun _ q => ha _ (hb _ ⟨i, j, rfl, rfl, q⟩)
theorem pu_I {ta tb : TE} {C : Int → Int → Prop} {g : Int → Int → V} {i j : Int} (ha : PuE ta σ H (.int i)) (hb : PuE tb σ H (.int j)) (hc : C i j) : PuE (tOp (rI C g) ta tb) σ H (g i j) := fun _ q => ha _ (hb _ ⟨i, j, rfl, rfl, hc, q⟩)
theorem pu_U {ta : TE} {g : Int → V} {i : Int} (ha : PuE ta σ H (.int i)) : PuE (tUn (rU g) ta) σ H (g i) := fun _ q => ha _ ⟨i, rfl, q⟩
theorem dec_v {i j : Int} : decide (V.int i = V.int j) = decide (i = j) := by
  by_cases h : i = j
  · rw [h, decT rfl, decT rfl]
  · rw [decF h, decF (fun e => h (by injection e))]
theorem dec_b {a b : Bool} : decide (V.bl a = V.bl b) = decide (a = b) := by cases a <;> cases b <;> decide
theorem pu_eqI {ta tb : TE} {i j : Int} (ha : PuE ta σ H (.int i)) (hb : PuE tb σ H (.int j)) : PuE (tOp rEq ta tb) σ H (.bl (decide (i = j))) := fun _ q => ha _ (hb _ ⟨rfl, by rw [dec_v]; exact q⟩)
theorem pu_neI {ta tb : TE} {i j : Int} (ha : PuE ta σ H (.int i)) (hb : PuE tb σ H (.int j)) : PuE (tOp rNe ta tb) σ H (.bl (!decide (i = j))) := fun _ q => ha _ (hb _ ⟨rfl, by rw [dec_v]; exact q⟩)
theorem pu_eqB {ta tb : TE} {i j : Bool} (ha : PuE ta σ H (.bl i)) (hb : PuE tb σ H (.bl j)) : PuE (tOp rEq ta tb) σ H (.bl (decide (i = j))) := fun _ q => ha _ (hb _ ⟨rfl, by rw [dec_b]; exact q⟩)
theorem pu_neB {ta tb : TE} {i j : Bool} (ha : PuE ta σ H (.bl i)) (hb : PuE tb σ H (.bl j)) : PuE (tOp rNe ta tb) σ H (.bl (!decide (i = j))) := fun _ q => ha _ (hb _ ⟨rfl, by rw [dec_b]; exact q⟩)
theorem pu_and {ta tb : TE} {a b : Bool} (ha : PuE ta σ H (.bl a)) (hb : a = true → PuE tb σ H (.bl b)) : PuE (tAndV ta tb) σ H (.bl (a && b)) := fun Q q => ha _ ⟨a, rfl, by
  cases a
  · exact iteF q
  · exact iteT (hb rfl _ q)⟩
theorem pu_or {ta tb : TE} {a b : Bool} (ha : PuE ta σ H (.bl a)) (hb : a = false → PuE tb σ H (.bl b)) : PuE (tOrV ta tb) σ H (.bl (a || b)) := fun Q q => ha _ ⟨a, rfl, by
  cases a
  · exact iteF (hb rfl _ q)
  · exact iteT q⟩
theorem pu_not {ta : TE} {a : Bool} (ha : PuE ta σ H (.bl a)) : PuE (tNotV ta) σ H (.bl (!a)) := fun _ q => ha _ ⟨a, rfl, q⟩
theorem pu_chain {g g' : Int → Int → Bool} {ta tb tc : TE} {i j k : Int} (ha : PuE ta σ H (.int i)) (hb : PuE tb σ H (.int j)) (hc : PuE tc σ H (.int k)) :
    PuE (tChain (rI0 fun i j => .bl (g i j)) (rI0 fun i j => .bl (g' i j)) ta tb tc) σ H (.bl (g i j && g' j k)) := fun Q q => ha _ (hb _ ⟨i, j, rfl, rfl, g i j, rfl, by
  cases e : g i j
  · rw [e] at q; exact iteF q
  · rw [e] at q; exact iteT (hc _ ⟨j, k, rfl, rfl, q⟩)⟩)
theorem pu_int {ta : TE} {b : Bool} (ha : PuE ta σ H (.bl b)) : PuE (tCB (fun xs H Q => (∃ i, xs = [.int i] ∧ Q (.int i) H) ∨ ∃ k, xs = [.bl k] ∧ Q (.int (if k then 1 else 0)) H) (tCons ta tNil)) σ H (.int (if b then 1 else 0)) := fun _ q => ha _ (Or.inr ⟨b, rfl, q⟩)
theorem pu_len {ta : TE} {p : Addr} {ys : List V} (ha : PuE ta σ H (.ref p)) (h : SqL K H p ys) : PuE (tCB (fun xs H Q => ∃ p ys, xs = [.ref p] ∧ (SqL K H p ys ∨ SqT K H p ys) ∧ Q (.int ys.length) H) (tCons ta tNil)) σ H (.int ys.length) := fun _ q => ha _ ⟨p, ys, rfl, .inl h, q⟩
theorem pu_ix {ta tb : TE} {p : Addr} {xs : List V} {i : Int} {v : V} (ha : PuE ta σ H (.ref p)) (hb : PuE tb σ H (.int i)) (h : SqL K H p xs) (hv : atI xs i = some v) : PuE (tOp (rIxL K) ta tb) σ H v := fun _ q => ha _ (hb _ ⟨p, xs, i, v, rfl, rfl, h, hv, q⟩)
theorem pu_nil : PuA tNil σ H [] := fun _ q => q
theorem pu_cons {te : TE} {t : TA} {v : V} {vs : List V} (h : PuE te σ H v) (hr : PuA t σ H vs) : PuA (tCons te t) σ H (v :: vs) := fun _ q => h _ (hr _ q)
theorem pu_isin {ta tb : TE} {x : V} {t : Value} {T : String} {b : Bool} (ha : PuE ta σ H x) (hb : PuE tb σ H (.ty T)) (ty : TyOf K H x t) (e : PySem.W.kitOne K t (.type T) = some b) :
    PuE (tCB (fun xs H Q => ∃ x t T b, xs = [x, .ty T] ∧ TyOf K H x t ∧ PySem.W.kitOne K t (.type T) = some b ∧ Q (.bl b) H) (tCons ta (tCons tb tNil))) σ H (.bl b) := fun _ q => ha _ (hb _ ⟨x, t, T, b, rfl, ty, e, q⟩)
theorem pu_call {sp : Sp} {E : XK} {t : TA} {vs : List V} {v : V} (h : PuA t σ H vs) (hs : ∀ Q : VK, Q v H → sp (vs ++ []) H Q E) : PuE (tCall sp [] E t) σ H v := fun _ q => h _ (hs _ q)
theorem pu_eqL {ta tb : TE} {a b : Addr} {ns ms : List Int} (ha : PuE ta σ H (.ref a)) (hb : PuE tb σ H (.ref b)) (h1 : SqL K H a (iv ns)) (h2 : SqL K H b (iv ms)) : PuE (tOp (rEqL K) ta tb) σ H (.bl (decide (ns = ms))) := fun _ q => ha _ (hb _ ⟨a, b, ns, ms, rfl, rfl, h1, h2, q⟩)
theorem pu_neL {ta tb : TE} {a b : Addr} {ns ms : List Int} (ha : PuE ta σ H (.ref a)) (hb : PuE tb σ H (.ref b)) (h1 : SqL K H a (iv ns)) (h2 : SqL K H b (iv ms)) : PuE (tOp (rNeL K) ta tb) σ H (.bl (!decide (ns = ms))) := fun _ q => ha _ (hb _ ⟨a, b, ns, ms, rfl, rfl, h1, h2, q⟩)
theorem pu_test {t : TE} {b : Bool} (h : PuE t σ H (.bl b)) : PuT (tTest t) σ H b := fun _ q => h _ ⟨b, rfl, q⟩
theorem pu_tB {t : TE} {b : Bool} (h : PuE t σ H (.bl b)) : PuT (tB t) σ H b := fun _ q => h _ ⟨b, rfl, q⟩
theorem pt_and' {t u : TT} {a b : Bool} (ha : PuT t σ H a) (hb : a = true → PuT u σ H b) : PuT (tAnd t u) σ H (a && b) := fun Q q => ha _ (by
  cases a
  · exact iteF q
  · exact iteT (hb rfl _ q))
theorem pt_or' {t u : TT} {a b : Bool} (ha : PuT t σ H a) (hb : a = false → PuT u σ H b) : PuT (tOr t u) σ H (a || b) := fun Q q => ha _ (by
  cases a
  · exact iteF (hb rfl _ q)
  · exact iteT q)
theorem pt_not' {t : TT} {a : Bool} (ha : PuT t σ H a) : PuT (tNot t) σ H (!a) := fun _ q => ha _ q
variable {D : Ends}
theorem sq {t u : TS} (h : t { D with nx := u D } σ H) : tSeq t u D σ H := h
theorem sq_mk {t u : TS} {n b c : St → Hp → Prop} {r : VK} (h : t ⟨u ⟨n, r, b, c⟩, r, b, c⟩ σ H) : tSeq t u ⟨n, r, b, c⟩ σ H := h
theorem nx_mk {n b c : St → Hp → Prop} {r : VK} (h : n σ H) : tNext ⟨n, r, b, c⟩ σ H := h
theorem un_ (h : tNext D σ H) : D.nx σ H := h
theorem gn2 {i : Nat} {v : V} {R : St → Hp → Prop} (h : R (σ.set i (some v)) H) : gName i v σ H R := h
theorem gn_ {i : Nat} {v : V} (h : tNext D (σ.set i (some v)) H) : gName i v σ H D.nx := h
theorem st_set {te : TE} {i : Nat} {v : V} (hv : PuE te σ H v) (h : tNext D (σ.set i (some v)) H) : tAsg te (gName i) D σ H := hv _ h
theorem st_if {tc : TT} {t u : TS} {b : Bool} (hc : PuT tc σ H b) (h1 : b = true → t D σ H) (h2 : b = false → u D σ H) : tIfS tc t u D σ H := hc _ (by
  cases b
  · exact iteF (h2 rfl)
  · exact iteT (h1 rfl))
theorem st_ret {te : TE} {v : V} (hv : PuE te σ H v) (h : D.rt v H) : tRet te D σ H := hv _ h
theorem st_ifset {tc : TT} {te : TE} {i : Nat} {b : Bool} {v w : Int} (hc : PuT tc σ H b) (hv : b = true → PuE te σ H (.int v)) (h0 : σ[i]? = some (some (.int w))) (h : tNext D (σ.set i (some (.int (if b then v else w)))) H) : tIfS tc (tAsg te (gName i)) tNext D σ H := by
  refine st_if hc (fun e => ?_) (fun e => ?_)
  · subst e
    exact hv rfl _ h
  · subst e
    have e2 : σ.set i (some (.int w)) = σ := by
      obtain ⟨hi, e3⟩ := List.getElem?_eq_some_iff.mp h0
      have := List.set_getElem_self hi
      rw [e3] at this
      exact this
    have h' : D.nx (σ.set i (some (.int w))) H := h
    rw [e2] at h'
    exact h'
theorem st_lst {ta : TA} {i : Nat} {vs : List V} (ha : PuA ta σ H vs) (hz : vs.length ≤ 1000) (h : ∀ p, H p = none → tNext D (σ.set i (some (.ref p))) (upd H p (.lst vs))) : tAsg (tLst ta) (gName i) D σ H := ha _ ⟨small hz, fun p hp => h p hp⟩
theorem st_for {tl : TE} {i : Nat} {tb : TS} {a : Addr} {xs : List V} (hv : PuE tl σ H (.ref a)) (hS : SqL K H a xs) (Pv : Nat → St → Hp → Prop) (h0 : Pv 0 σ H) (hl : ∀ j σ H, j ≤ xs.length → Pv j σ H → SqL K H a xs)
    (hs : ∀ j x σ H, xs[j]? = some x → Pv j σ H → tb { D with nx := Pv (j + 1), ct := Pv (j + 1), bk := D.nx } (σ.set i (some x)) H) (hd : ∀ σ H, Pv xs.length σ H → tNext D σ H) : tFor (iList K tl) (gName i) tb D σ H :=
  hv _ ⟨a, rfl, ⟨xs, hS⟩, for_list (g := gName i) Pv h0 hl hs hd⟩
theorem st_new {i : Nat} (h : ∀ p, H p = none → tNext D (σ.set i (some (.ref p))) (upd H p (.lst []))) : tAsg (tLst tNil) (gName i) D σ H := ⟨Nat.zero_le _, fun p hp => h p hp⟩
theorem st_copy {te : TE} {i : Nat} {a : Addr} {ys : List V} (hv : PuE te σ H (.ref a)) (hS : SqL K H a ys) (h : ∀ p, H p = none → tNext D (σ.set i (some (.ref p))) (upd H p (.lst ys))) :
    tAsg (tCB (fun xs H Q => ∃ p ys, xs = [.ref p] ∧ (SqL K H p ys ∨ SqT K H p ys) ∧ ∀ l, H l = none → Q (.ref l) (upd H l (.lst ys))) (tCons te tNil)) (gName i) D σ H := hv _ ⟨a, ys, rfl, .inl hS, fun p hp => h p hp⟩
theorem st_append {to te : TE} {l : Addr} {xs : List V} {y : V} (ho : PuE to σ H (.ref l)) (he : PuE te σ H y) (hl : H l = some (.lst xs)) (hz : xs.length < 100000) (h : tNext D σ (upd H l (.lst (xs ++ [y])))) : tDrop (tBM K "list" rAppend to (tCons te tNil)) D σ H :=
  ho _ ⟨.inl ⟨rfl, _, SqL.of hl⟩, he _ ⟨l, xs, y, rfl, rfl, hl, bigL (Nat.le_of_lt hz), h⟩⟩
theorem st_pop {to : TE} {l : Addr} {xs : List V} {y : V} (ho : PuE to σ H (.ref l)) (hl : H l = some (.lst xs)) (hy : xs[xs.length - 1]? = some y) (h : tNext D σ (upd H l (.lst xs.dropLast))) : tDrop (tBM0 K "list" rPop to) D σ H :=
  ho _ ⟨.inl ⟨rfl, _, SqL.of hl⟩, l, xs, y, rfl, rfl, hl, hy, h⟩
end
theorem same_upd {H H1 : Hp} {l : Addr} (h : H l = Option.none) (s : Same H H1) (o : HO) : Same H (upd H1 l o) := fun b u e => by rw [upd_ne (ne_of_none e h)]; exact s b u e
def LsE (t : TE) (σ : St) (H : Hp) (fs : List Int) : Prop := ∀ H0, Same H H0 → ∀ Q : VK, (∀ p H', Same H0 H' → H' p = some (.lst (iv fs)) → Q (.ref p) H') → t σ H0 Q
def MkL (t : TE) (σ : St) (H : Hp) (fs : List Int) : Prop := ∀ H0, Same H H0 → ∀ Q : VK, (∀ p H', H0 p = Option.none → Same H0 H' → H' p = some (.lst (iv fs)) → Q (.ref p) H') → t σ H0 Q
section
variable {σ : St} {H : Hp} {K : PySem.W.Frag} {D : Ends}
theorem MkL.ls {t : TE} {fs : List Int} (h : MkL t σ H fs) : LsE t σ H fs := fun H0 s Q q => h H0 s Q fun p H' _ s' e => q p H' s' e
theorem ls_var {i : Nat} {p : Addr} {fs : List Int} (h : σ[i]? = some (some (.ref p))) (hp : H p = some (.lst (iv fs))) : LsE (tVar i) σ H fs := fun H0 s Q q => ⟨.ref p, h, q p H0 (Same.refl _) (s _ _ hp)⟩
theorem mk_lst {ta : TA} {fs : List Int} (ha : ∀ H0, PuA ta σ H0 (iv fs)) (hz : fs.length ≤ 100000) : MkL (tLst ta) σ H fs := fun H0 s Q q => ha H0 _ ⟨big (by rw [ints_len]; exact hz), fun p hp => q p _ hp (same_new hp _) upd_same⟩
theorem mk_cat {ta tb : TE} {fs gs : List Int} (ha : LsE ta σ H fs) (hb : LsE tb σ H gs) (hz : fs.length + gs.length ≤ 100000) : MkL (tOp rCat ta tb) σ H (fs ++ gs) := fun H0 s Q q =>
  ha H0 s _ fun a H1 s1 h1 => hb H1 (s.trans s1) _ fun b H2 s2 h2 => ⟨a, b, _, _, rfl, rfl, s2 _ _ h1, h2, big (by rw [ints_len, ints_len]; exact hz), fun p hp =>
    q p _ ((s1.trans s2).free hp) ((s1.trans s2).trans (same_new hp _)) (by rw [upd_same, ints_app])⟩
theorem mk_rep {ta tb : TE} {c k : Int} (ha : LsE ta σ H [c]) (hb : ∀ H0, PuE tb σ H0 (.int k)) (h0 : -1000 ≤ k) (h1 : k ≤ 100000) : MkL (tOp rRep ta tb) σ H (List.replicate k.toNat c) := fun H0 s Q q =>
  ha H0 s _ fun a H1 s1 ha1 => hb H1 _ ⟨a, k, iv [c], rfl, rfl, ha1, by omega, by omega, big (by show 1 * k.toNat ≤ 100000; omega), fun p hp =>
    q p _ (s1.free hp) (s1.trans (same_new hp _)) (by rw [upd_same]; exact congrArg (fun l => some (HO.lst l)) (flat_rep k.toNat c))⟩
theorem mk_sl {te : TE} {tl th : TO} {lo hi : Option Int} {fs gs : List Int} (ha : LsE te σ H fs) (hl : ∀ H0 (Q : Option Int → Hp → Prop), Q lo H0 → tl σ H0 Q) (hh : ∀ H0 (Q : Option Int → Hp → Prop), Q hi H0 → th σ H0 Q) (e : cutV (iv fs) lo hi = iv gs) :
    MkL (tSl (rSlL K) te tl th) σ H gs := fun H0 s Q q => ha H0 s _ fun a H1 s1 h1 => hl _ _ (hh _ _ ⟨a, iv fs, rfl, SqL.of h1, fun p hp => q p _ (s1.free hp) (s1.trans (same_new hp _)) (by rw [upd_same, e])⟩)
def IntE (t : TE) (σ : St) (H : Hp) (v : Int) : Prop := ∀ H0, Same H H0 → ∀ Q : VK, (∀ H', Same H0 H' → Q (.int v) H') → t σ H0 Q
theorem po_c0 {H0 : Hp} {Q : Option Int → Hp → Prop} (q : Q none H0) : tNoPart σ H0 Q := q
theorem po_c1 {te : TE} {k : Int} (h : ∀ H0, PuE te σ H0 (.int k)) : ∀ H0 (Q : Option Int → Hp → Prop), Q (some k) H0 → tPart te σ H0 Q := fun H0 Q q => h H0 _ ⟨k, rfl, q⟩
theorem st_mk {te : TE} {i : Nat} {fs : List Int} (h : MkL te σ H fs) (q : ∀ p H', H p = Option.none → Same H H' → H' p = some (.lst (iv fs)) → tNext D (σ.set i (some (.ref p))) H') : tAsg te (gName i) D σ H := h H (Same.refl _) _ q
theorem IntE.of {te : TE} {v : Int} (h : ∀ H0, Same H H0 → PuE te σ H0 (.int v)) : IntE te σ H v := fun H0 s Q q => h H0 s _ (q H0 (Same.refl _))
end
end L2
namespace L2
open PySem PySem.Spec PyProof.Rows

abbrev cxComp (X : Cx) (scope : Scope) (N : List Str) (C : Addr) (s₀ : Shared) (H₀ : Hp) (fp : List Addr) : Cx where
  prog := X.prog
  w := X.w
  K := X.K
  mg := X.mg
  base := X.base
  A := X.A
  N := N
  s₀ := s₀
  H₀ := H₀
  env := compEnv scope C X.env
  outer := X.stack
  stack := X.stack
  ex := fp
  fn := fun _ => true
  calm := X.calm
  pn := []
  xe := fun _ _ => False
def tComp (wi : TI) (g : TG) (te : TE) (n : Nat) : TE := fun σ H Q => wi σ H fun J H1 => ∀ acc, H1 acc = none →
  ∃ W : Nat → Nat → Hp → Prop, (∃ m, W 0 m (upd H1 acc (.lst []))) ∧ ∀ i m H, W i m H →
    (J.stop i H ∧ Q (.ref acc) H) ∨ (J.go i H ∧ ∃ N : VK, (∀ y H3, N y H3 → ∃ xs, H3 acc = some (.lst xs) ∧ xs.length < sizeLine ∧ ∃ m', m' < m ∧ W (i + 1) m' (upd H3 acc (.lst (xs ++ [y])))) ∧
      ∀ x H', J.yld i H x H' → g x (List.replicate n none) H' fun σ2 H2 => te σ2 H2 N)

theorem comp_loop {M : Program} {w : World} {A : Around} {R : Result → Shared → Prop} {s : Shared} {elt target iter : Expr} {scope : Scope} {pos : Pos} {it acc : Value} {env : Env} (I : Nat → Shared → Prop)
    (turn : ∀ n s, I n s → wpAny (model M w) A (pyNext it) (fun r s₁ => match r with
      | none => R (.ok .next) s₁
      | some v => wpAny (model M w) A (letOwnedTupleGo target it v) (fun _ s₂ => wpAny (model M w) A (assign target env v) (fun _ s₃ => wpAny (model M w) A (eval elt env) (fun x s₄ =>
          wpAny (model M w) A (call (.builtin "list.append") [acc, x]) (fun _ s₅ => ∃ m, m < n ∧ I m s₅) (notedBy (model M w) A env fun e s' => R (.error e) s') s₄)
          (notedBy (model M w) A env fun e s' => R (.error e) s') s₃) (notedBy (model M w) A env fun e s' => R (.error e) s') s₂) (notedBy (model M w) A env fun e s' => R (.error e) s') s₁)
      (notedBy (model M w) A env fun e s' => R (.error e) s') s)
    (n : Nat) (h : I n s) : codeAny (model M w) A (.compLoop (.ListComp elt [⟨target, iter, [], 0⟩] scope pos) 0 it acc env) R s := by
  refine codeAny_loop rfl I (fun n s hI => ?_) n h
  show wpAny _ A ((compTurn (.ListComp elt [⟨target, iter, [], 0⟩] scope pos) 0 it acc env).onRaise (fun x => do noteFrame x env; theTreesLotGoes x)) _ _ s
  refine wpAny_noted ?_
  rw [compTurn_list1]
  refine wpAny_bind (wpAny_standAt (wpAny_bind (wpAny_mono (turn n s hI) (fun r s₁ h₁ => ?_) fun _ _ h' => h')))
  cases r with
  | none => exact wpAny_pure h₁
  | some v =>
    refine wpAny_bind (wpAny_mono h₁ (fun _ s₂ h₂ => wpAny_bind (wpAny_mono h₂ (fun _ s₃ h₃ => ?_) fun _ _ h' => h')) fun _ _ h' => h')
    exact wpAny_bind (wpAny_bind (wpAny_mono h₃ (fun x s₄ h₄ => wpAny_bind (wpAny_mono h₄ (fun _ s₅ h₅ => wpAny_pure (wpAny_pure ⟨rfl, h₅⟩)) fun _ _ h' => h')) fun _ _ h' => h'))

section
variable {X : Cx}
theorem pe_comp {elt iter tg : Expr} {scope : Scope} {pos : Pos} {N : List Str} {wi : TI} {g : TG} {te : TE} (hc : X.calm = true) (hfree : ∀ x ∈ scope.names, x.2 ≠ .free) (hcell : ∀ x ∈ scope.names, x.2 ≠ .cell) (hkind : scope.kind = .function)
    (hnames : ∀ x ∈ scope.names, x.2 = .local → scope.names.lookup x.1 = some .local) (hi : PI X tg iter wi)
    (hg : ∀ C s₀ H₀ fp, PG (cxComp X scope N C s₀ H₀ fp) tg g) (he : ∀ C s₀ H₀ fp, PE (cxComp X scope N C s₀ H₀ fp) elt te)
    (hs : ∀ x, foldedSetIterable iter X.env x = pure x := by intro _; rfl) : PE X (.ListComp elt [⟨tg, iter, [], 0⟩] scope pos) (tComp wi g te N.length) := by
  intro pins s σ H Q I h
  refine wpAny_ListComp hfree hkind hnames ?_ hs
  refine thn (hi pins s σ H _ I h) fun v s1 h1 => thn h1 fun itv s2 h2 => ?_
  obtain ⟨it, fp, tn, J, H2, e, I2, T, st2, f2, hR⟩ := h2
  subst e
  refine wpAny_newObj_type (hd := by size_fits) ?_
  have hacc : H2 s2.heap.objs.size = none := I2.hok.fresh (Nat.le_refl _)
  obtain ⟨W, ⟨m0, w0⟩, turn⟩ := hR _ hacc
  have I3 : Inv X pins σ (upd H2 s2.heap.objs.size (.lst [])) { s2 with heap := s2.heap.push { cls := .type "list", dict := none, data := .seq ([] : List Value).toArray } } :=
    I2.laid (t' := s2.toks) (fun b o e => Heap.get?_push_of_some _ e) (Nat.le_refl _) ⟨Nat.zero_le _, [], 0, .nil, Heap.get?_push_size _ rfl⟩
  have st3 : tn 0 (s2.heap.push { cls := .type "list", dict := none, data := .seq ([] : List Value).toArray }) := T.keep _ _ _ st2 fun b _ o e => Heap.get?_push_of_some _ e
  have f3 : ∀ b ∈ fp, FpOk X pins (upd H2 s2.heap.objs.size (.lst [])) b := fun b hb => by
    obtain ⟨o, eo, _⟩ := T.obj _ _ st2 b hb
    refine ⟨?_, (f2 b hb).2⟩
    rw [upd_ne (Nat.ne_of_lt (Heap.lt_size eo))]
    exact (f2 b hb).1
  generalize hacc' : s2.heap.objs.size = acc at *
  generalize hs3 : ({ s2 with heap := s2.heap.push { cls := .type "list", dict := none, data := .seq ([] : List Value).toArray } } : Shared) = s3 at *
  have est3 : tn 0 s3.heap := by rw [← hs3]; exact st3
  generalize hH3 : upd H2 acc (.lst []) = H3 at *
  clear hs3 st3 hacc' I2 st2 f2 hR
  refine wpAny_newFunctionEnv hcell (by intro y hy; simp at hy) (fun h4 hns4 hsb4 => ?_) hkind
  have hlt : ∀ b o, s3.heap.get? b = some o → b ≠ s3.heap.objs.size := fun b o e => Nat.ne_of_lt (Heap.lt_size e)
  have k4 : ∀ b o, s3.heap.get? b = some o → h4.get? b = some o := fun b o e => hsb4.extBut b o (hlt b o e) (Heap.get?_push_of_some _ e)
  have ok' : (cxComp X scope N s3.heap.objs.size s3 H3 fp).Ok :=
    { mod := I3.ok.mod
      kind := hkind
      glob := I3.ok.glob
      blt := I3.ok.blt
      above := Nat.le_refl _
      inj := fun x y c e => by cases e
      has := fun x hx => by
        exfalso
        rcases hx with hx | hx
        · exact hcell _ (PySem.mem_of_lookup hx) rfl
        · exact hfree _ (PySem.mem_of_lookup hx) rfl
      cab := fun x c _ e => by cases e
      hd := I3.ok.hd
      frames := I3.ok.frames
      stk := .inl rfl
      exf := fun b hb => ⟨by obtain ⟨o, eo, _⟩ := T.obj _ _ est3 b hb; exact hlt b o eo, fun x c e => by cases e⟩
      bs := I3.bs
      bsz := Nat.le_trans I3.ok.bsz I3.sz
      noex := fun b o e hb => by
        rcases (f3 b hb).2.2.2.1 with z | z
        · exact I3.ok.noex b o e z
        · exact absurd (Nat.lt_of_lt_of_le (Heap.lt_size e) I3.ok.bsz) (Nat.not_lt.mpr z)
      exfs := fun b hb z => by
        have z' := I3.stkSub b z
        rcases List.mem_cons.mp z' with z' | z'
        · exact (f3 b hb).2.1 z'
        · exact (f3 b hb).2.2.1 z'
      funs := I3.stack
      frf := I3.stkFree }
  have I4 : Inv (cxComp X scope N s3.heap.objs.size s3 H3 fp) (X.pn ++ pins) (List.replicate N.length none) H3 { s3 with heap := h4, toks := s3.toks + ([] : List (Str × Value)).length } :=
    { ok := ok'
      os := rfl
      bare := I3.bare
      base := Un.kept k4
      loc := ⟨_, hns4, fun i x v _ h2 _ => by rw [List.getElem?_replicate] at h2; split at h2 <;> cases h2⟩
      cell := fun x c e => by cases e
      free := I3.hok.fresh (Nat.le_refl _)
      freeC := fun x c e => by cases e
      pin := fun p hp => by
        have hp' : p ∈ X.pn ++ pins := by simpa using hp
        obtain ⟨p1, p2, p3, p4, p5⟩ := I3.pin p hp'
        refine ⟨k4 _ _ p1, p2, hlt _ _ p1, fun z => ?_, p5⟩
        rcases List.mem_cons.mp (I3.stkSub _ z) with z' | z'
        · exact p3 z'
        · exact p4 z'
      hok := I3.hok.kept k4
      len := List.length_replicate }
  have st4 : tn 0 h4 := T.keep _ _ _ est3 fun b _ o e => k4 b o e
  have fpn : ∀ b ∈ fp, H3 b = none := fun b hb => (f3 b hb).1
  have stat : ∀ {H' : Hp}, (∀ b ∈ fp, H' b = none) → ∀ b ∈ fp, FpOk (cxComp X scope N s3.heap.objs.size s3 H3 fp) (X.pn ++ pins) H' b := fun hn b hb => by
    refine ⟨hn b hb, (ok'.exf b hb).1, ok'.exfs b hb, .inl hb, (fun x c e => by cases e), fun p hp => ?_⟩
    have hp' : p ∈ X.pn ++ pins := by simpa using hp
    exact (f3 b hb).2.2.2.2.2 p hp'
  have loop : ∀ it' : Value, it' = .ref it → codeAny (model X.prog X.w) X.A (.compLoop (.ListComp elt [⟨tg, iter, [], 0⟩] scope pos) 0 it' (.ref acc) (compEnv scope s3.heap.objs.size X.env))
      (fun r s' => ∃ m, s'.heap.Ns s3.heap.objs.size m ∧ ∀ h', Heap.SameBut s3.heap.objs.size s'.heap h' →
        match r with | .ok _ => EP X pins σ Q (.ref acc) { s' with heap := h' } | .error x => wpAny (model X.prog X.w) X.A (PySem.passOn "comprehension.variables-let-go" x (compEnv scope s3.heap.objs.size X.env)) (EP X pins σ Q) X.xe { s' with heap := h' })
      { s3 with heap := h4, toks := s3.toks + ([] : List (Str × Value)).length } := by
    rintro it' rfl
    refine comp_loop (fun n s' => ∃ i σ' H', Inv (cxComp X scope N s3.heap.objs.size s3 H3 fp) (X.pn ++ pins) σ' H' s' ∧ tn i s'.heap ∧ (∀ b ∈ fp, H' b = none) ∧ W i n H') ?_ m0 ⟨0, _, H3, I4, st4, fpn, w0⟩
    rintro n s5 ⟨i, σ5, H5, I5, st5, fr5, w5⟩
    rcases turn i n H5 w5 with ⟨stop, qn⟩ | ⟨go, Nx, hN, step⟩
    · refine wpAny_mono (T.done (cxComp X scope N s3.heap.objs.size s3 H3 fp) rfl rfl rfl hc i (X.pn ++ pins) s5 σ5 H5 (fun _ _ => False) I5 (stat fr5) st5 stop) (fun r s6 ⟨hr, I6⟩ => ?_) fun _ _ e => e.elim
      subst hr
      obtain ⟨m6, hn6, _⟩ := I6.loc
      refine ⟨m6, hn6, fun h7 sb7 => ?_⟩
      have J6 : Inv X pins σ H5 s6 := I3.call' (ch := fp) I6.os I6.base I6.hok I6.bare fun b hb => ⟨(f3 b hb).2.2.2.1, (f3 b hb).2.1, (f3 b hb).2.2.2.2.1, (f3 b hb).2.2.2.2.2⟩
      have J7 : Inv X pins σ H5 { s6 with heap := h7, toks := s6.toks } := J6.turned (it := s3.heap.objs.size) (fun b o hb e => (sb7.2 b hb).trans e) I6.free (Nat.ne_of_gt I3.lt) (.inr I3.sz)
        (fun x c e => by obtain ⟨v, o, eo, _⟩ := I3.cell x c e; exact hlt c o eo) (fun p hp => hlt _ _ (I3.pin p hp).1)
      exact ⟨.ref acc, H5, J7, rfl, qn⟩
    · refine wpAny_mono (T.item (cxComp X scope N s3.heap.objs.size s3 H3 fp) rfl rfl rfl hc i (X.pn ++ pins) s5 σ5 H5 (fun _ _ => False) I5 (stat fr5) st5 go) (fun r s6 ⟨u, hr, h6⟩ => ?_) fun _ _ e => e.elim
      subst hr
      refine wpAny_mono h6 (fun _ s7 ⟨x, H7, I7, r7, y7, st7, fr7⟩ => ?_) fun _ _ e => e.elim
      have I7' : Inv (cxComp X scope N s3.heap.objs.size s3 H3 fp) ((X.pn ++ pins) ++ pinsAt fp s7.heap) (List.replicate N.length none) H7 s7 :=
        (I7.pinned (stat fr7) (T.obj _ _ st7)).weak (by rw [List.length_replicate, I7.len]) fun j v z => by rw [List.getElem?_replicate] at z; split at z <;> cases z
      refine wpAny_mono (hg _ _ _ _ _ s7 _ H7 x u _ I7' r7 (step x H7 y7)) (fun _ s8 ⟨σ8, H8, I8, q8⟩ => ?_) fun _ _ e => e.elim
      refine wpAny_mono (he _ _ _ _ _ s8 σ8 H8 _ I8 q8) (fun ux s9 ⟨y, H9, I9, r9, n9⟩ => ?_) fun _ _ e => e.elim
      obtain ⟨xs, ha, hl, m', hm, w9⟩ := hN y H9 n9
      refine wpAny_mono (mt_append (X := cxComp X scope N s3.heap.objs.size s3 H3 fp) _ s9 σ8 H9 (.ref acc) [y] (.ref acc) [ux] (fun _ H10 => W (i + 1) m' H10) I9 rfl (.cons r9 .nil) ⟨acc, xs, y, rfl, rfl, ha, hl, w9⟩) (fun _ s10 ⟨_, H10, I10, _, q10⟩ => ?_) fun _ _ e => e.elim
      refine ⟨m', hm, i + 1, σ8, H10, I10.unpinned, T.keep _ _ _ st7 fun b hb o e => (I10.pin (b, o) (List.mem_append_right _ (List.mem_append_right _ (mem_pinsAt hb e)))).1, fun b hb => ?_, q10⟩
      obtain ⟨o, e, d⟩ := T.obj _ _ st7 b hb
      exact (I10.pin (b, o) (List.mem_append_right _ (List.mem_append_right _ (mem_pinsAt hb e)))).2.1
  exact codeAny_compStart_list (loop _ rfl) (T.self _ _ _ _ _ st4 (loop _ rfl))
theorem comp_list {K : PySem.W.Frag} {a : Addr} {xs : List V} {g : TG} {te : TE} {n : Nat} {Q : VK} {H1 : Hp} {acc : Addr} (Pv : Nat → Hp → Prop) (h0 : Pv 0 (upd H1 acc (.lst []))) (hl : ∀ i H, i ≤ xs.length → Pv i H → SqL K H a xs)
    (hs : ∀ i x H, xs[i]? = some x → Pv i H → g x (List.replicate n none) H fun σ2 H2 => te σ2 H2 fun y H3 => ∃ zs, H3 acc = some (.lst zs) ∧ zs.length < sizeLine ∧ Pv (i + 1) (upd H3 acc (.lst (zs ++ [y])))) (hd : ∀ H, Pv xs.length H → Q (.ref acc) H) :
    ∃ W : Nat → Nat → Hp → Prop, (∃ m, W 0 m (upd H1 acc (.lst []))) ∧ ∀ i m H, W i m H →
      ((Itl K a).stop i H ∧ Q (.ref acc) H) ∨ ((Itl K a).go i H ∧ ∃ N : VK, (∀ y H3, N y H3 → ∃ zs, H3 acc = some (.lst zs) ∧ zs.length < sizeLine ∧ ∃ m', m' < m ∧ W (i + 1) m' (upd H3 acc (.lst (zs ++ [y])))) ∧
        ∀ x H', (Itl K a).yld i H x H' → g x (List.replicate n none) H' fun σ2 H2 => te σ2 H2 N) := by
  refine ⟨fun i m H => m = xs.length - i ∧ i ≤ xs.length ∧ Pv i H, ⟨xs.length, by simp, Nat.zero_le _, h0⟩, ?_⟩
  rintro i m H ⟨rfl, hi, p⟩
  have q := hl i H hi p
  by_cases hlt : i < xs.length
  · refine .inr ⟨⟨xs, xs[i], q, by simp [hlt]⟩, fun y H3 => ∃ zs, H3 acc = some (.lst zs) ∧ zs.length < sizeLine ∧ Pv (i + 1) (upd H3 acc (.lst (zs ++ [y]))), fun y H3 ⟨zs, z1, z2, z3⟩ => ⟨zs, z1, z2, xs.length - (i + 1), by omega, rfl, hlt, z3⟩, fun x H' y => ?_⟩
    obtain ⟨e, y⟩ := y
    subst e
    exact hs i x _ (y xs q) p
  · have e : i = xs.length := by omega
    subst e
    exact .inl ⟨⟨xs, q, Nat.le_refl _⟩, hd H p⟩
end
end L2
namespace L2
open PySem PySem.Spec PyProof.Rows
section
variable {X : Cx}
end
section
variable {X : Cx} {es : List Expr} {k : Nat} {tpos : Pos}
end
mutual
inductive DatR (K : PySem.W.Frag) (H : Hp) : V → PyData → Prop
  | non : DatR K H .non .none
  | bl (b : Bool) : DatR K H (.bl b) (.bool b)
  | int (i : Int) : DatR K H (.int i) (.int i)
  | lst {a : Addr} {xs : List V} {ds : List PyData} : SqL K H a xs → DatA K H xs ds → DatR K H (.ref a) (.list ds)
  | tup {a : Addr} {xs : List V} {ds : List PyData} : SqT K H a xs → DatA K H xs ds → DatR K H (.ref a) (.tuple ds)
inductive DatA (K : PySem.W.Frag) (H : Hp) : List V → List PyData → Prop
  | nil : DatA K H [] []
  | cons {x : V} {d : PyData} {xs : List V} {ds : List PyData} : DatR K H x d → DatA K H xs ds → DatA K H (x :: xs) (d :: ds)
end
section
variable {X : Cx} {pins : List (Addr × Obj)} {σ : St} {H : Hp} {s : Shared}
mutual
theorem DatR.reads (I : Inv X pins σ H s) : ∀ {x : V} {d : PyData}, DatR X.K H x d → ∀ {u : Value}, RelV x u → ∃ as, Reads s.heap u d as
  | _, _, .non, _, r => by cases (show _ = Value.none from r); exact ⟨_, .none⟩
  | _, _, .bl b, _, r => by cases (show _ = Value.bool b from r); exact ⟨_, .bool b⟩
  | _, _, .int i, _, r => by obtain ⟨t, rfl⟩ := (show ∃ t, _ = Value.int i t from r); exact ⟨_, .int i t⟩
  | _, _, @DatR.lst _ _ a xs ds h hA, _, r => by
    cases (show _ = Value.ref a from r)
    obtain ⟨its, rv, p, hz⟩ := I.list h
    obtain ⟨as, hr⟩ := DatA.reads I hA rv
    obtain ⟨o, ho, hc, n, hd⟩ := p.isList
    exact ⟨_, Reads.list ho hc hd (by simpa using hr)⟩
  | _, _, @DatR.tup _ _ a xs ds h hA, _, r => by
    cases (show _ = Value.ref a from r)
    obtain ⟨its, rv, p, hz⟩ := I.tuple h
    obtain ⟨as, hr⟩ := DatA.reads I hA rv
    obtain ⟨o, ho, hc, n, hd⟩ := (show s.heap.IsTuple a its.toArray from p)
    exact ⟨_, Reads.tuple ho hc hd (by simpa using hr)⟩
theorem DatA.reads (I : Inv X pins σ H s) : ∀ {xs : List V} {ds : List PyData}, DatA X.K H xs ds → ∀ {us : List Value}, Vals xs us → ∃ as, ReadsAll s.heap us ds as
  | _, _, .nil, _, .nil => ⟨_, .nil⟩
  | _, _, .cons h hA, _, .cons r rs => by
    obtain ⟨as, h1⟩ := DatR.reads I h r
    obtain ⟨bs, h2⟩ := DatA.reads I hA rs
    exact ⟨_, .cons h1 h2⟩
end
def rEqD (K : PySem.W.Frag) : R2 := fun x y H Q => ∃ d e, DatR K H x d ∧ DatR K H y e ∧ SeqAt.shaped d = true ∧ SeqAt.shaped e = true ∧ Q (.bl (PyData.eqv d e)) H
theorem op_eqD (hu : X.A.units + 64 < cLine) : OpR X (compareOp .Eq) (rEqD X.K) := by
  intro pins s σ H x y v u Q I rx ry h
  obtain ⟨d, e, hd, he, sd, se, q⟩ := h
  obtain ⟨as, ra⟩ := hd.reads I rx
  obtain ⟨bs, rb⟩ := he.reads I ry
  exact eq_dataH ra rb sd se hu ⟨.bl _, H, I, rfl, q⟩
end
def dT (ns : List Int) : PyData := .tuple (ns.map PyData.int)
theorem shaped_of {d : PyData} (h1 : d.canLay0 = true) (h2 : d.depth ≤ 64) : SeqAt.shaped d = true := by
  show (d.canLay0 && decide (d.depth ≤ 64)) = true
  rw [h1, decide_eq_true h2]; rfl
end L2
namespace L2
open PySem PySem.Spec PyProof.Rows

structure Fly (P : Program) (w : World) (outer : List Env) (H : Hp) (s : Shared) (cls : Value) (H' : Hp) (e : Addr) (s' : Shared) : Prop where
  os : s'.os = s.os
  bare : AllBare s'.gens
  un : Un (frs outer) [] H H' s.heap s'.heap
  hok : HOk P w H' s'.heap
  new : H' e = none
  newS : s.heap.get? e = none
  fly : ∃ B a0, Heap.FlyingW B outer e cls a0 s'.heap ∧ ∀ b o, b ∉ frs outer → ((∃ u, s.heap.get? b = some u) ∨ ∃ u, H' b = some u) → s'.heap.get? b = some o → B.get? b = some o
def CX1 (P : Program) (w : World) : CXT := fun outer H s E e s' => ∃ ea cls H', e = .ref ea ∧ Fly P w outer H s cls H' ea s' ∧ E cls none H'
theorem ObjOk.there {P : Program} {w : World} {H : Hp} {h : Heap} {a : Addr} {o : HO} (x : ObjOk P w H h a o) : ∃ u, h.get? a = some u := by
  cases o with
  | lst xs => obtain ⟨_, _, _, _, e⟩ := x; exact ⟨_, e⟩
  | tup xs => obtain ⟨_, _, _, o, e, _⟩ := x; exact ⟨_, e⟩
  | dK kvs => obtain ⟨_, _, _, _, o, _, _, e, _⟩ := x; exact ⟨_, e⟩
  | dT kvs => obtain ⟨_, _, _, _, o, _, _, e, _⟩ := x; exact ⟨_, e⟩
  | set S n => obtain ⟨o, _, _, _, e, _⟩ := x; exact ⟨_, e⟩
  | ins C dx fs => obtain ⟨_, _, _, e, _⟩ := x; exact ⟨_, e⟩
  | own y => exact x
  | xd fs => obtain ⟨_, ⟨_, _, _, e, _⟩, _⟩ := x; exact ⟨_, e⟩
  | rng lo hi => obtain ⟨_, _, _, e⟩ := x; exact ⟨_, e⟩
  | frz ob u => obtain ⟨e, _⟩ := x; exact ⟨_, e⟩
  | tbl ps => exact ⟨_, (show h.get? a = some _ from x)⟩
  | met f y => exact ⟨_, (show h.get? a = some _ from x)⟩
  | ext φ => obtain ⟨_, e, _⟩ := x; exact e

section
variable {X : Cx} {pins : List (Addr × Obj)} {σ : St} {H H' : Hp} {s s' : Shared} {g h'' B : Heap} {e : Addr} {cls a0 : Value}
theorem Inv.frOld (I : Inv X pins σ H s) {b : Addr} {o : Obj} (q : X.s₀.heap.get? b = some o) (n : b ∉ X.fs) : b ∉ frs X.stack := fun z => by
  rcases List.mem_cons.mp (I.stkSub b z) with z | z
  · exact absurd (Nat.lt_of_lt_of_le (Heap.lt_size q) I.ok.above) (by rw [z]; exact Nat.lt_irrefl _)
  · exact n z
theorem Inv.old (I : Inv X pins σ H s) (hx : X.ex = []) {b : Addr} {o : Obj} (q : X.s₀.heap.get? b = some o) : ∃ u, s.heap.get? b = some u := I.base.there b o q (by rw [hx]; simp)
theorem Inv.flyOut (I : Inv X pins σ H s) (hx : X.ex = []) (U : Un (frs X.stack) [] H H' s.heap g) (hok : HOk X.prog X.w H' g)
    (hB : ∀ b o, b ∉ frs X.stack → ((∃ u, s.heap.get? b = some u) ∨ ∃ u, H' b = some u) → g.get? b = some o → B.get? b = some o) (hf : Heap.FlyingW B X.outer e cls a0 h'') (hs : g.UpToSlots h'')
    (ne : H' e = none) (nS : s.heap.get? e = none) (os : s'.os = s.os) (bare : AllBare s'.gens) (hh : s'.heap = h'') : Fly X.prog X.w X.outer X.H₀ X.s₀ cls H' e s' := by
  have stay := hf.1
  have hfr : ∀ b ∈ frs X.stack, H' b = none := fun b hb => by
    obtain ⟨_, o, ho, _⟩ := I.stack.mem hb
    exact U.free b o ho (I.stkFree b hb) (by simp)
  have nf : ∀ b u, H' b = some u → b ∉ frs X.stack := fun b u q z => by rw [hfr b z] at q; cases q
  have slot : ∀ b o, X.s₀.heap.get? b = some o → b ∈ X.fs → X.H₀ b = none → ∃ sl, h''.get? b = some { o with slots := sl } := fun b o q hb n => by
    obtain ⟨sl, e1⟩ := I.base.slot b o q n hb (by rw [hx]; simp)
    have n1 := I.base.free b o q n (by rw [hx]; simp)
    obtain ⟨sl2, e2⟩ := U.any e1 n1 (by simp)
    obtain ⟨_, o', ho', hd⟩ := I.ok.funs.mem hb
    rw [q] at ho'; cases ho'
    obtain ⟨sl3, e3⟩ := hs b _ e2 hd
    exact ⟨sl3, e3⟩
  have kept : ∀ b o, g.get? b = some o → b ∉ frs X.stack → ((∃ u, s.heap.get? b = some u) ∨ ∃ u, H' b = some u) → h''.get? b = some o := fun b o q n t => stay b o (hB b o n t q)
  have there : ∀ b o, X.s₀.heap.get? b = some o → b ∉ X.fs → ∃ u, g.get? b = some u ∧ h''.get? b = some u := fun b o q n => by
    obtain ⟨u, eu⟩ := I.old hx q
    obtain ⟨v, ev⟩ := U.there b u eu (by simp)
    exact ⟨v, ev, kept b v ev (I.frOld q n) (.inl ⟨u, eu⟩)⟩
  have hok' : HOk X.prog X.w H' h'' := fun b u q => (hok b u q).stay (fun c v hc qv => by
    rcases hc with z | z
    · subst z; exact kept c v qv (nf c u q) (.inr ⟨u, q⟩)
    · exact kept c v qv (nf c _ z) (.inr ⟨_, z⟩)) (fun _ z => z) fun _ _ z => z
  refine ⟨os.trans I.os, bare, ?_, by rw [hh]; exact hok', ne, ?_, B, a0, by rw [hh]; exact hf, fun b o n t q => ?_⟩
  · rw [hh]
    refine ⟨fun b o q n hb _ => ?_, fun b o q n hb _ => slot b o q hb n, fun b o q n _ => ?_, fun b o q _ => ?_, fun b xs q => U.tups b xs (I.base.tups b xs q), fun b o u q => U.frzs b o u (I.base.frzs b o u q), fun b ps q => ?_⟩
    · have e1 := I.base.keep b o q n hb (by rw [hx]; simp)
      have n1 := I.base.free b o q n (by rw [hx]; simp)
      have hbs := I.frOld q hb
      exact kept b o (U.keep b o e1 n1 hbs (by simp)) hbs (.inl ⟨o, e1⟩)
    · obtain ⟨u, eu⟩ := I.old hx q
      exact U.free b u eu (I.base.free b o q n (by rw [hx]; simp)) (by simp)
    · by_cases hb : b ∈ X.fs
      · obtain ⟨sl, z⟩ := slot b o q hb (I.ok.frf b hb)
        exact ⟨_, z⟩
      · obtain ⟨u, _, z⟩ := there b o q hb
        exact ⟨u, z⟩
    · obtain ⟨m1, e1⟩ := I.base.tbls b ps q
      obtain ⟨m2, e2⟩ := U.tbls b _ e1
      exact ⟨m1 ++ m2, by rw [e2, Array.append_assoc]⟩
  · cases q : X.s₀.heap.get? e with
    | none => rfl
    | some o =>
      obtain ⟨u, eu⟩ := I.old hx q
      rw [nS] at eu; cases eu
  · rw [hh] at q
    rcases t with ⟨u, eu⟩ | ⟨u, eu⟩
    · obtain ⟨v, ev, ev2⟩ := there b u eu n
      rw [q] at ev2; cases ev2
      obtain ⟨u2, eu2⟩ := I.old hx eu
      exact hB b _ (I.frOld eu n) (.inl ⟨u2, eu2⟩) ev
    · obtain ⟨v, ev⟩ := (hok b u eu).there
      have ev2 := kept b v ev (nf b u eu) (.inr ⟨u, eu⟩)
      rw [q] at ev2; cases ev2
      exact hB b _ (nf b u eu) (.inr ⟨u, eu⟩) ev
end

section
variable {P : Program} {w : World} {K : PySem.W.Frag} {mg : Str → Option Value} {base : Heap} {N : List Str} {qual : Str} {scope : Scope} {f : Addr} {cd : Value} {A : Around} {outer : List Env} {s₀ : Shared} {H₀ : Hp} {E : XK}
abbrev cxE (P : Program) (w : World) (K : PySem.W.Frag) (mg : Str → Option Value) (base : Heap) (N : List Str) (qual : Str) (scope : Scope) (f : Addr) (cd : Value) (A : Around) (outer : List Env) (s : Shared) (H : Hp) (E : XK) : Cx :=
  cxOf (CX1 P w) P w K mg base N qual scope f cd A outer s H E
def Rais (X : Cx) (E : XK) : Prop := ∀ (pins : List (Addr × Obj)) (σ : St) (H : Hp) (s : Shared) (h' : Heap) (e : Addr) (cls : Value) (vs : List Value), Inv X pins σ H s → Heap.MadeExcOf s.heap h' e cls vs → E cls none H → X.xe (.ref e) { s with heap := h' }
theorem rais_cx : Rais (cxE P w K mg base N qual scope f cd A outer s₀ H₀ E) E := by
  intro pins σ H s h' e cls vs I hx q
  have hne : H e = none := by
    cases z : H e with
    | none => rfl
    | some u =>
      obtain ⟨o, eo⟩ := (I.hok e u z).there
      rw [hx.new] at eo; cases eo
  refine wpAny_leaves_madeW (base := PySem.W.hideAll s.heap (frs (cxE P w K mg base N qual scope f cd A outer s₀ H₀ E).stack)) (h := s.heap) (outer := outer) (L := s₀.heap.objs.size) I.ok.frames rfl (fun b o z => PySem.W.of_hideAll _ z)
    (PySem.W.funFrames_hide I.stack fun env he a ha => List.mem_filterMap.mpr ⟨env, he, ha⟩) hx fun h'' t hf _ _ hs => ?_
  refine ⟨e, cls, H, rfl, I.flyOut (B := PySem.W.hideAll s.heap (frs (cxE P w K mg base N qual scope f cd A outer s₀ H₀ E).stack)) rfl (Un.kept hx.keeps) (I.hok.kept hx.keeps) (fun b o n t z => ?_) hf hs hne hx.new rfl I.bare rfl, q⟩
  have : ∃ u, s.heap.get? b = some u := by
    rcases t with t | ⟨u, eu⟩
    · exact t
    · exact (I.hok b u eu).there
  obtain ⟨u, eu⟩ := this
  have := hx.keeps b u eu
  rw [z] at this; cases this
  exact PySem.W.hideAll_get _ eu n
theorem pass1 {E' : XK} (hE : ∀ cls d H, E' cls d H → E cls d H) : Passes (CX1 P w) (cxE P w K mg base N qual scope f cd A outer s₀ H₀ E) E' := by
  rintro pins σ H s e s' I ⟨ea, cls, H', rfl, F, q⟩
  obtain ⟨B, a0, hf, hB⟩ := F.fly
  refine wpAny_leaves_onW (base := B) (outer := outer) (L := s₀.heap.objs.size) I.ok.frames rfl hf fun h'' hf' hs => ?_
  exact ⟨ea, cls, H', rfl, I.flyOut rfl F.un F.hok hB hf' hs F.new F.newS F.os F.bare rfl, hE _ _ _ q⟩
end

theorem own_obj {K : PySem.W.Frag} {h : Heap} {C : Addr} {bmB : List Value} {newId : String} (X : K.In h) (q : PySem.W.excIn K C bmB newId = true) :
    ∃ bm N nm q bs hdct sn sub ab col dd k0 k1 k2 k3 k5 mN, h.get? C = some (excClassObj nm q C N bs bm hdct sn sub ab col dd k0 k1 k2 k3 k5 newId) ∧ h.Ns N mN ∧ mN "__init__" = none ∧ OwnTail h bmB bm := by
  unfold PySem.W.excIn at q
  split at q
  · rename_i dd cd sl ho
    split at q
    · rename_i C' bm k0 k1 k2 k3 n k5 hm hs
      simp only [Bool.and_eq_true, beq_iff_eq, Bool.not_eq_true'] at q
      obtain ⟨⟨⟨⟨⟨rfl, rfl⟩, hdel⟩, ht⟩, hok⟩, hni⟩ := q
      obtain ⟨nm, bs, mro, ns, qn, hd, sn, sub, ab, col, del⟩ := cd
      dsimp only at hm hdel hok hni
      subst hm hdel
      have hsl : sl = #[k0, k1, k2, k3, some (.builtin n), k5] := by
        obtain ⟨l⟩ := sl
        simp only at hs
        rw [hs]
      subst hsl
      exact ⟨bm, ns, nm, qn, bs, hd, sn, sub, ab, col, dd, k0, k1, k2, k3, k5, _, X _ _ ho, .of_isNs (PySem.W.isNs_of_in X hok), PySem.W.nsMap_none_of_in X hok hni, PySem.W.tail_of_in X ht⟩
    · cases q
  · cases q
abbrev valueErr : List Value := [.type "ValueError", .type "Exception", .type "BaseException", .type "object"]
structure Err (K : PySem.W.Frag) (mg : Str → Option Value) (x : Str) (C : Addr) : Prop where
  gl : mg x = some (.ref C)
  ok : PySem.W.excIn K C valueErr "ValueError.__new__" = true
def tRaise (E : XK) (C : Addr) (t : TA) : TS := fun _ σ H => t σ H fun vs H1 => vs.length ≤ sizeLine ∧ E (.ref C) none H1
section
variable {X : Cx} {E : XK} {C : Addr} {x : Str} {np cpos pos : Pos} {e₀ : Expr} {rest : List Expr} {t : TA}
theorem ps_raise (hE : Rais X E) (hc : X.calm = true) (er : Err X.K X.mg x C) (hg : Gl X x) (ha : PA X (e₀ :: rest) t) (he : starEach (e₀ :: rest) X.env = (false, eval e₀ X.env) :: starEach rest X.env := by rfl)
    (hplain : (backTo cpos (starEach rest X.env)).any (·.1) = false := by rfl) (hd : (x == ("__debug__" : Str)) = false := by decide) :
    PS X (.Raise (some (.Call (.Name x np) (e₀ :: rest) [] cpos)) none pos) (tRaise E C t) := by
  intro pins s σ H D I h
  obtain ⟨tl, N, nm, q, bs, hdct, sn, sub, ab, col, dd, k0, k1, k2, k3, k5, mN, hC, hN, hni, T⟩ := own_obj I.ok.mod.kin er.ok
  refine wpAny_Raise_call_subU (C := C) (nm := nm) (q := q) (N := N) (bs := bs) (bm := tl) (hdct := hdct) (sn := sn) (sub := sub) (ab := ab) (col := col) (dd := dd) (k0 := k0) (k1 := k1) (k2 := k2) (k3 := k3) (k5 := k5)
    (Bn := "ValueError") (newId := "ValueError.__new__") PySem.F.excBase_ValueError (by decide) PySem.F.excBase_ValueError (mN := mN) (T.hasType PySem.F.excBase_ValueError.hasBase) (I.ok.hd hc) (by rw [he]; show (false || (backTo cpos (starEach rest X.env)).any (·.1)) = false; rw [hplain]; rfl) hni (ld_glob I hg er.gl ⟨rfl, ?_⟩ hd)
  have h' := ha cpos pins s σ H _ I h
  rw [he] at h' ⊢
  exact Calls.evalArgs_plain (wpAny_mono h' (fun us s2 ⟨vs, H2, I2, r, z, q⟩ => ⟨rfl, by show us.length ≤ sizeLine; rw [← r.length]; exact z, I2.bk _ _ hC, hN.keeps I2.bk, T.keeps I2.bk, fun h'' e hm => hE pins σ H2 s2 h'' e _ _ I2 hm q⟩) fun _ _ y => y)
end
theorem Fun.okE {P : Program} {w : World} {K : PySem.W.Frag} {mg : Str → Option Value} {base : Heap} {x qual : Str} {st : Stmt} {f : Addr} {fd : FuncData} {N ps : List Str} {k : Nat} {sp : Sp} (F : Fun K x qual st f fd) (S : FnScope N ps (defScope st)) (len : ∀ vs H Q E, sp vs H Q E → vs.length = ps.length)
    (hbody : ∀ (cdv : Value) (A : Around) (outer : List Env) (s : Shared) (H : Hp) (vs : List V) (Q : VK) (E : XK), Room k (A.deeper (envOfC qual (defScope st) s.heap.objs.size f cdv)) → sp vs H Q E →
      ∃ t, PSs (cxE P w K mg base N qual (defScope st) f cdv A outer s H E) (defBody st) t ∧ t { nx := fun _ H' => Q .non H', rt := Q } (start N vs) H) : FnOk P w K mg base (CX1 P w) (k + 1) f fd ps sp := by
  obtain ⟨oc, od, kV, doc, pm, an, cdv, ct, osl, rfl, lk, hcd⟩ := F.ex
  exact fn_of lk hcd S len fun A outer s H vs Q E hr hsp => hbody cdv A outer s H vs Q E hr hsp
theorem own_loops {P : Program} {w : World} {K : PySem.W.Frag} {mg : Str → Option Value} {base : Heap} {N : List Str} {qual : Str} {scope : Scope} {f : Addr} {cd : Value} {A : Around} {outer : List Env} {s₀ : Shared} {H₀ : Hp} {E : XK} :
    PassesOwn (model P w) (cxE P w K mg base N qual scope f cd A outer s₀ H₀ E).A (cxE P w K mg base N qual scope f cd A outer s₀ H₀ E).env (cxE P w K mg base N qual scope f cd A outer s₀ H₀ E).xe := PassesOwn.leaving

def PEat (X : Cx) (pins : List (Addr × Obj)) (σ : St) (e : Expr) (t : TE) : Prop := ∀ (s : Shared) (H : Hp) (Q : VK), Inv X pins σ H s → t σ H Q → wpAny (model X.prog X.w) X.A (eval e X.env) (EP X pins σ Q) X.xe s
def PSat (X : Cx) (pins : List (Addr × Obj)) (σ : St) (st : Stmt) (t : TS) : Prop := ∀ (s : Shared) (H : Hp) (D : Ends), Inv X pins σ H s → t D σ H → wpAny (model X.prog X.w) X.A (exec st X.env) (SP X pins D) X.xe s
def PSsat (X : Cx) (pins : List (Addr × Obj)) (σ : St) (st : List Stmt) (t : TS) : Prop := ∀ (s : Shared) (H : Hp) (D : Ends), Inv X pins σ H s → t D σ H → wpAny (model X.prog X.w) X.A (execs st X.env) (SP X pins D) X.xe s
def PassAt (CX : CXT) (X : Cx) (pins : List (Addr × Obj)) (σ : St) (E : XK) : Prop := ∀ (H : Hp) (s : Shared) (e : Value) (s' : Shared), Inv X pins σ H s → CX X.stack H s E e s' → X.xe e s'
section
variable {X : Cx} {pins : List (Addr × Obj)} {σ : St} {CX : CXT} {k : Nat} {f C : Addr} {fd : FuncData} {ps : List Str} {sp : Sp} {dvs : List V} {ds : List Value} {E : XK} {x m : Str} {p pos apos : Pos} {e o : Expr} {es : List Expr} {ta te : TE} {t : TA}
theorem run_fnAt {H : Hp} {s : Shared} {Q : VK} {us : List Value} {vs : List V} (F : FnOk X.prog X.w X.K X.mg X.base CX k f fd ps sp) (hr : Room k X.A) (hb : Binds X.K fd ps ds) (hd : Vals dvs ds) (hx : PassAt CX X pins σ E)
    (I : Inv X pins σ H s) (r : Vals vs us) (h : sp (vs ++ dvs) H Q E) : wpAny (model X.prog X.w) X.A (call (.ref f) us) (EP X pins σ Q) X.xe s := by
  have r2 : Vals (vs ++ dvs) (us ++ ds) := r.append hd
  have hl : (us ++ ds).length = ps.length := by rw [← r2.length]; exact F.len _ _ _ _ h
  refine wpAny_call (codeAny_mono (F.run X.A X.stack s H ⟨us, []⟩ (us ++ ds) (vs ++ dvs) Q E hr I.env0 (hb s us I.kIn hl) r2 h) fun r s' hq => ?_)
  cases r with
  | error e => exact hx H s e s' I hq
  | ok fl =>
    cases fl with
    | ret u => exact I.after hq
    | next => exact False.elim hq
    | brk => exact False.elim hq
    | cont => exact False.elim hq
theorem pe_callAt (F : FnOk X.prog X.w X.K X.mg X.base CX k f fd ps sp) (hr : Room k X.A) (hg : Gl X x) (hm : X.mg x = some (.ref f)) (hk : PySem.W.keepIn X.K (.ref f) = true) (hb : Binds X.K fd ps ds) (hd : Vals dvs ds) (hx : PassAt CX X pins σ E)
    (ha : PA X (e :: es) t) (hdb : (x == ("__debug__" : Str)) = false := by decide) (he : starEach (e :: es) X.env = (false, eval e X.env) :: starEach es X.env := by rfl) (hpl : (backTo pos (starEach es X.env)).any (·.1) = false := by rfl) :
    PEat X pins σ (.Call (.Name x p) (e :: es) [] pos) (tCall sp dvs E t) := by
  intro s H Q I h
  refine wpAny_Call_Name_kw (ld_glob I hg hm ?_ hdb)
  refine PySem.W.callWith_K (h₀ := X.base) I.ok.mod.kin hk (thn (ha pos pins s σ H _ I h) fun us s1 ⟨vs, H1, I1, r, q⟩ => ⟨I1.kIn, ?_⟩) he hpl
  exact run_fnAt F hr hb hd hx I1 r q
theorem ps_exprAt (he : PEat X pins σ e te) (hs : swapsWith e none pos.line X.env = pure false := by rfl) : PSat X pins σ (.Expr e pos) (tDrop te) := by
  intro s H D I h
  exact wpAny_Expr_any (thn (he s H _ I h) fun v s1 ⟨x, H1, I1, r1, q1⟩ => ⟨σ, H1, I1, q1⟩) I.quiet hs
theorem pss_oneAt {st : Stmt} {t : TS} (h1 : PSat X pins σ st t) : PSsat X pins σ [st] t := by
  intro s H D I h
  refine wpAny_execs_cons (thn (h1 s H D I h) fun f s1 q => ?_)
  cases f with
  | next => exact wpAny_execs_nil q
  | ret v => exact q
  | brk => exact q
  | cont => exact q
end

def excO (e : Addr) (cls : Value) : HO := .ext fun h => ∃ o, h.get? e = some o ∧ o.cls = cls
abbrev Cx.suite (X : Cx) (e : Addr) : Cx := { X with A := X.A.mark (some (.ref e)), calm := false, xe := fun _ _ => False }
section
variable {X : Cx} {pins : List (Addr × Obj)} {σ : St} {H H' : Hp} {s s' : Shared} {e : Addr} {cls : Value}
theorem Inv.suite (I : Inv X pins σ H s) (e : Addr) : Inv (X.suite e) pins σ H s :=
  ⟨⟨I.ok.mod, I.ok.kind, I.ok.glob, I.ok.blt, I.ok.above, I.ok.inj, I.ok.has, I.ok.cab, fun z => Bool.noConfusion (show false = true from z), I.ok.frames, I.ok.stk, I.ok.exf, I.ok.bs, I.ok.bsz, I.ok.noex, I.ok.exfs, I.ok.funs, I.ok.frf⟩, I.os, I.bare, I.base, I.loc, I.cell, I.free, I.freeC, I.pin, I.hok, I.len⟩
theorem Inv.unsuite (I : Inv (X.suite e) pins σ H s) (ok : X.Ok) : Inv X pins σ H s := ⟨ok, I.os, I.bare, I.base, I.loc, I.cell, I.free, I.freeC, I.pin, I.hok, I.len⟩
theorem Inv.land {B h5 : Heap} {a0 : Value} {os' : OsState} {l : List Env} (I : Inv X pins σ H s) (F : Fly X.prog X.w X.stack H s cls H' e s') (hB : ∀ b o, b ∉ frs X.stack → ((∃ u, s.heap.get? b = some u) ∨ ∃ u, H' b = some u) → s'.heap.get? b = some o → B.get? b = some o)
    (hf : Heap.FlyingW B l e cls a0 h5) (hs : s'.heap.UpToSlots h5) : Inv X pins σ H' { s' with heap := h5 } := by
  have stay := hf.1
  have hfr : ∀ b ∈ frs X.stack, H' b = none := fun b hb => by
    obtain ⟨_, o, ho, _⟩ := I.stack.mem hb
    exact F.un.free b o ho (I.stkFree b hb) (by simp)
  have nf : ∀ b u, H' b = some u → b ∉ frs X.stack := fun b u q z => by rw [hfr b z] at q; cases q
  have slot : ∀ b o, s.heap.get? b = some o → b ∈ frs X.stack → ∃ sl, h5.get? b = some { o with slots := sl } := fun b o q hb => by
    obtain ⟨sl, e1⟩ := F.un.slot b o q (I.stkFree b hb) hb (by simp)
    obtain ⟨_, o', ho', hd⟩ := I.stack.mem hb
    rw [q] at ho'; cases ho'
    obtain ⟨sl2, e2⟩ := hs b _ e1 hd
    exact ⟨sl2, e2⟩
  refine I.call' (s' := { s' with heap := h5 }) (ch := []) F.os ⟨fun b o q n hb _ => stay b o (hB b o hb (.inl ⟨o, q⟩) (F.un.keep b o q n hb (by simp))), fun b o q n hb _ => slot b o q hb, fun b o q n hx => F.un.free b o q n hx, fun b o q hx => ?_, F.un.tups, F.un.frzs, F.un.tbls⟩
    (fun b u q => (F.hok b u q).stay (fun c v hc qv => ?_) (fun _ z => z) fun _ _ z => z) F.bare (fun b z => absurd z (by simp))
  · by_cases hb : b ∈ frs X.stack
    · obtain ⟨sl, z⟩ := slot b o q hb
      exact ⟨_, z⟩
    · obtain ⟨o', e1⟩ := F.un.there b o q hx
      exact ⟨o', stay b o' (hB b o' hb (.inl ⟨o, q⟩) e1)⟩
  · rcases hc with z | z
    · subst z; exact stay c v (hB c v (nf c u q) (.inr ⟨u, q⟩) qv)
    · exact stay c v (hB c v (nf c _ z) (.inr ⟨_, z⟩) qv)
theorem Inv.track {o : Obj} {u : HO} (I : Inv X pins σ H s) (n : H e = none) (h0 : X.s₀.heap.get? e = none) (hL : e ≠ X.env.locals) (hC : ∀ x c, X.env.cells.lookup x = some c → c ≠ e) (hp : ∀ p ∈ X.pn ++ pins, p.1 ≠ e) (new : ObjOk X.prog X.w (upd H e u) s.heap e u) :
    Inv X pins σ (upd H e u) s := by
  refine ⟨I.ok, I.os, I.bare, ⟨I.base.keep, I.base.slot, fun b o q m hx => ?_, I.base.there, fun b xs q => ?_, fun b o v q => ?_, fun b ps q => ?_⟩, I.loc, I.cell, ?_, fun x c q => ?_, fun p q => ?_, fun b v q => ?_, I.len⟩
  · rw [upd_ne (fun z => by rw [z, h0] at q; cases q)]; exact I.base.free b o q m hx
  · have := I.base.tups b xs q
    rw [upd_ne (ne_of_none this n)]; exact this
  · have := I.base.frzs b o v q
    rw [upd_ne (ne_of_none this n)]; exact this
  · obtain ⟨m, this⟩ := I.base.tbls b ps q
    exact ⟨m, by rw [upd_ne (ne_of_none this n)]; exact this⟩
  · rw [upd_ne (Ne.symm hL)]; exact I.free
  · rw [upd_ne (hC x c q)]; exact I.freeC x c q
  · obtain ⟨a, b, c, d, f⟩ := I.pin p q
    exact ⟨a, by rw [upd_ne (hp p q)]; exact b, c, d, f⟩
  · by_cases z : b = e
    · subst z; rw [upd_same] at q; cases q; exact new
    · rw [upd_ne z] at q
      exact (I.hok b v q).stay (fun _ _ _ y => y) (fun c y => by rw [upd_ne (ne_of_none y n)]; exact y) fun c xs y => by rw [upd_ne (ne_of_none y n)]; exact y
theorem Inv.goes {i : Nat} {x : Str} {pos : Pos} {M : Model} {A : Around} {E : Value → Shared → Prop} {Q : Unit → Shared → Prop} (I : Inv X pins σ H s) (hi : X.N[i]? = some x) (hN : X.N.Nodup) (hl : X.env.scope.names.lookup x = some .local)
    (h : ∀ s', Inv X pins (σ.set i none) H s' → Q () s') : wpAny M A (do bindName X.env x .none; unbindBehindTheSuite X.env x pos) Q E s := by
  obtain ⟨m, hn, hl'⟩ := id I.loc
  have hcls : (X.env.scope.kind == .class || (X.env.scope.kind == .module && X.env.locals != X.env.globals)) = false := by rw [I.ok.kind]; rfl
  have cne := I.cne
  refine wpAny_nameGoes_keeps hl hn hcls fun h' v hn' hs => ?_
  obtain ⟨oL, _, _, hoL, _⟩ := id hn
  have neL : ∀ b o, X.s₀.heap.get? b = some o → b ≠ X.env.locals := fun b o e => Nat.ne_of_lt (Nat.lt_of_lt_of_le (Heap.lt_size e) I.ok.above)
  refine h _ ⟨I.ok, I.os, I.bare, ⟨fun b o e n hb hx => (hs.2 b (neL b o e)).trans (I.base.keep b o e n hb hx), fun b o e n hb hx => ?_, I.base.free, fun b o e hx => ?_, I.base.tups, I.base.frzs, I.base.tbls⟩, ⟨_, hn', fun j y v' e1 e2 e3 => ?_⟩, fun y c e => ?_, I.free, I.freeC, fun p hp => ?_, fun b ob e => ?_, by simpa using I.len⟩
  · obtain ⟨sl, e1⟩ := I.base.slot b o e n hb hx
    exact ⟨sl, (hs.2 b (neL b o e)).trans e1⟩
  · obtain ⟨o', e1⟩ := I.base.there b o e hx
    exact ⟨o', (hs.2 b (neL b o e)).trans e1⟩
  · by_cases hj : j = i
    · subst hj
      rw [List.getElem?_set] at e2
      split at e2
      · split at e2 <;> cases e2
      · rename_i z; exact absurd rfl z
    · rw [List.getElem?_set_ne (Ne.symm hj)] at e2
      obtain ⟨u', r', q⟩ := hl' j y v' e1 e2 e3
      refine ⟨u', r', ?_⟩
      rcases q with ⟨k, e⟩ | ⟨k, c, e, z⟩
      · refine .inl ⟨k, ?_⟩
        have : y ≠ x := fun e => hj (nodup_ix hN e1 (e ▸ hi))
        simp [this, e]
      · exact .inr ⟨k, c, e, z.sameBut hs (cne y c e)⟩
  · obtain ⟨w', z⟩ := I.cell y c e
    exact ⟨w', z.sameBut hs (cne y c e)⟩
  · obtain ⟨e, n, ne, nf, d⟩ := I.pin p hp
    exact ⟨(hs.2 p.1 ne).trans e, n, ne, nf, d⟩
  · refine (I.hok b ob e).stay (fun c w' hc q => (hs.2 c ?_).trans q) (fun _ q => q) fun _ _ q => q
    rintro rfl
    rcases hc with rfl | hc
    · rw [I.free] at e; cases e
    · rw [I.free] at hc; cases hc
end
def errSub (K : PySem.W.Frag) (C D : Addr) : Bool := match K.lookup C with
  | some ⟨_, _, .cls cd, _⟩ => cd.mro.contains (.ref D)
  | _ => false
section
variable {M : Model} {A : Around} {E : Value → Shared → Prop}
theorem exc_takes {K : PySem.W.Frag} {h : Heap} {g : Array GenState} {d : Drawn} {t : Nat} {os : OsState} {e C D : Addr} {oe : Obj} {Q : Bool → Shared → Prop} (X : K.In h) (kC : PySem.W.excIn K C valueErr "ValueError.__new__" = true) (kD : PySem.W.excIn K D valueErr "ValueError.__new__" = true) (hs : errSub K C D = true)
    (he : h.get? e = some oe) (hcls : oe.cls = .ref C) (hq : Q true ⟨h, g, d, t, os⟩) : wpAny M A (excMatches (.ref e) (.ref D)) Q E ⟨h, g, d, t, os⟩ := by
  obtain ⟨bm, N, nm, q, bs, hdct, sn, sub, ab, col, dd, k0, k1, k2, k3, k5, mN, hC, hN, hni, T⟩ := own_obj X kC
  obtain ⟨bm', N', nm', q', bs', hdct', sn', sub', ab', col', dd', k0', k1', k2', k3', k5', mN', hD, hN', hni', T'⟩ := own_obj X kD
  have hcB : (Value.ref D :: bm').contains (.type "BaseException") = true := by rw [List.contains_cons, T'.hasType PySem.F.excBase_ValueError.hasBase, Bool.or_true]
  have hcC : (Value.ref C :: bm).contains (.ref D) = true := by
    unfold errSub at hs
    split at hs
    · rename_i c' d' cd' sl' ho
      have z := (X _ _ ho).symm.trans hC
      unfold excClassObj at z
      cases z
      exact hs
    · cases hs
  have f := tc_notTuple
  unfold excMatches
  repeat (first | (with_reducible refine wpAny_loadPart_at he ?_; rw [hcls]) | with_reducible refine wpAny_loadPart_at hC ?_ | with_reducible refine wpAny_loadPart_at hD ?_ | (with_reducible refine wpAny_isSubtype_exc hD ?_; rw [hcB]) | (with_reducible refine wpAny_isSubtype_exc hC ?_; rw [hcC]) | wp_step)
  exact hq
end
section
variable {X : Cx} {body suite : List Stmt} {b₀ : Stmt} {x n : Str} {D : Addr} {np hpos pos : Pos} {tb : XK → TS} {ts : TS} {i : Nat}
def tTryAs (K : PySem.W.Frag) (D : Addr) (i : Nat) (tb : XK → TS) (ts : TS) : TS := fun Z σ H => tb (fun cls _ H1 => ∃ C, cls = .ref C ∧ PySem.W.excIn K C valueErr "ValueError.__new__" = true ∧ errSub K C D = true ∧
  ∀ e, H1 e = none → ts { nx := fun σ2 H2 => Z.nx (σ2.set i none) H2, rt := Z.rt, bk := fun σ2 H2 => Z.bk (σ2.set i none) H2, ct := fun σ2 H2 => Z.ct (σ2.set i none) H2 } (σ.set i (some (.ref e))) (upd H1 e (excO e (.ref C)))) Z σ H
def tTry0 (K : PySem.W.Frag) (D : Addr) (tb : XK → TS) (ts : TS) : TS := fun Z σ H => tb (fun cls _ H1 => ∃ C, cls = .ref C ∧ PySem.W.excIn K C valueErr "ValueError.__new__" = true ∧ errSub K C D = true ∧
  ∀ e, H1 e = none → ts Z σ (upd H1 e (excO e (.ref C)))) Z σ H
theorem ps_tryAs (hstk : X.stack = X.env :: X.outer) (hfr : X.env.frame = some X.env.locals) (hex : X.ex = []) (hxe : X.xe = fun _ _ => False) (hb : ∀ (pins : List (Addr × Obj)) (σ : St) (xe : Value → Shared → Prop) (E : XK), PassAt (CX1 X.prog X.w) (X.wish xe) pins σ E → PSsat (X.wish xe) pins σ body (tb E))
    (er : Err X.K X.mg x D) (hg : Gl X x) (hs : ∀ e, PSs (X.suite e) (b₀ :: suite) ts) (hN : X.N.Nodup) (hi : X.N[i]? = some n) (hl : X.env.scope.names.lookup n = some .local) (hd : (x == ("__debug__" : Str)) = false := by decide) :
    PS X (.Try body [.ExceptHandler (some (.Name x np)) (some n) (b₀ :: suite) hpos] [] [] pos) (tTryAs X.K D i tb ts) := by
  intro pins s σ H Z I h
  refine wpAny_Try_except (wpAny_mono (hb pins σ (fun e s' => ∃ H0 s0, Inv X pins σ H0 s0 ∧ CX1 X.prog X.w X.stack H0 s0 _ e s') _ (fun H0 s0 e s' I0 z => ⟨H0, s0, I0.unwish, z⟩) s H Z (I.wish _) h) (fun f s1 q => by
    have q' := q.unwish
    cases f with
    | next => exact wpAny_execs_nil q'
    | brk => exact q'
    | cont => exact q'
    | ret u => exact q') ?_)
  rintro ev s1 ⟨H0, s0, I0, e, cls, H', rfl, F, C, rfl, kC, sub, q⟩
  obtain ⟨B, a0, hfl, hB⟩ := F.fly
  have hfl0 := hfl
  rw [hstk] at hfl
  refine wpAny_looks_onW (by rw [I0.ok.frames, hstk]) hfr hfl fun h4 held4 sm4 => ?_
  refine wpAny_landsW held4 fun h5 fl5 sm5 => ?_
  have I5 : Inv X pins σ H' { s1 with heap := h5 } := I0.land (os' := s1.os) F hB fl5 (sm4.trans sm5)
  obtain ⟨ob, hob, hobc⟩ := fl5.there
  refine wpAny_handleBy_cons (codeAny_handlers_test (ld_glob (I5.suite e) hg er.gl ?_ hd)) (by intro z; cases z)
  refine exc_takes I5.kIn kC er.ok sub hob hobc (codeAny_handlers_suite_as ?_)
  refine lands_againW fl5 fun h6 fl6 sm6 => ?_
  have I6 : Inv X pins σ H' { s1 with heap := h6 } := I0.land (os' := s1.os) F hB fl6 ((sm4.trans sm5).trans sm6)
  obtain ⟨ob6, hob6, hobc6⟩ := fl6.there
  have nS0 : X.s₀.heap.get? e = none := by
    cases z : X.s₀.heap.get? e with
    | none => rfl
    | some o =>
      obtain ⟨u, eu⟩ := I0.old hex z
      rw [F.newS] at eu; cases eu
  have there0 : ∀ b o, s0.heap.get? b = some o → b ≠ e := fun b o z w => by rw [w, F.newS] at z; cases z
  have I7 : Inv X pins σ (upd H' e (excO e (.ref C))) { s1 with heap := h6 } := by
    refine I6.track (o := ob6) F.new nS0 (fun z => ?_) (fun y c z => ?_) (fun p z => ?_) ⟨⟨ob6, hob6, hobc6⟩, ⟨ob6, hob6⟩, fun h1 h2 ⟨o, e1, e2⟩ k => ⟨o, k o e1, e2⟩⟩
    · obtain ⟨m, ⟨o, _, _, ho, _⟩, _⟩ := I0.loc
      exact there0 _ o ho z.symm
    · obtain ⟨v, o, ho, _⟩ := I0.cell y c z
      exact there0 _ o ho
    · exact there0 _ _ (I0.pin p z).1
  refine store_ok2 (X := X.suite e) (I7.suite e) hN hi (.inl hl) (v := .ref e) rfl (fun s8 I8 _ => ?_) (.inr hl)
  refine wpAny_mono (hs e pins s8 _ _ _ I8 (q e F.new)) (fun f s9 q9 => ?_) fun _ _ z => False.elim z
  show wpAny _ _ (do bindName X.env n .none; unbindBehindTheSuite X.env n hpos) (fun _ s3 => SP X pins Z f s3) X.xe s9
  cases f with
  | next => obtain ⟨σ9, H9, I9, q9⟩ := q9; exact (I9.unsuite I.ok).goes hi hN hl fun s' I' => ⟨_, H9, I', q9⟩
  | brk => obtain ⟨σ9, H9, I9, q9⟩ := q9; exact (I9.unsuite I.ok).goes hi hN hl fun s' I' => ⟨_, H9, I', q9⟩
  | cont => obtain ⟨σ9, H9, I9, q9⟩ := q9; exact (I9.unsuite I.ok).goes hi hN hl fun s' I' => ⟨_, H9, I', q9⟩
  | ret u => obtain ⟨v, σ9, H9, I9, r9, q9⟩ := q9; exact (I9.unsuite I.ok).goes hi hN hl fun s' I' => ⟨v, _, H9, I', r9, q9⟩
theorem ps_try0 (hstk : X.stack = X.env :: X.outer) (hfr : X.env.frame = some X.env.locals) (hex : X.ex = []) (hxe : X.xe = fun _ _ => False) (hb : ∀ (pins : List (Addr × Obj)) (σ : St) (xe : Value → Shared → Prop) (E : XK), PassAt (CX1 X.prog X.w) (X.wish xe) pins σ E → PSsat (X.wish xe) pins σ body (tb E))
    (er : Err X.K X.mg x D) (hg : Gl X x) (hs : ∀ e, PSs (X.suite e) (b₀ :: suite) ts) (hd : (x == ("__debug__" : Str)) = false := by decide) :
    PS X (.Try body [.ExceptHandler (some (.Name x np)) none (b₀ :: suite) hpos] [] [] pos) (tTry0 X.K D tb ts) := by
  intro pins s σ H Z I h
  refine wpAny_Try_except (wpAny_mono (hb pins σ (fun e s' => ∃ H0 s0, Inv X pins σ H0 s0 ∧ CX1 X.prog X.w X.stack H0 s0 _ e s') _ (fun H0 s0 e s' I0 z => ⟨H0, s0, I0.unwish, z⟩) s H Z (I.wish _) h) (fun f s1 q => by
    have q' := q.unwish
    cases f with
    | next => exact wpAny_execs_nil q'
    | brk => exact q'
    | cont => exact q'
    | ret u => exact q') ?_)
  rintro ev s1 ⟨H0, s0, I0, e, cls, H', rfl, F, C, rfl, kC, sub, q⟩
  obtain ⟨B, a0, hfl, hB⟩ := F.fly
  rw [hstk] at hfl
  refine wpAny_looks_onW (by rw [I0.ok.frames, hstk]) hfr hfl fun h4 held4 sm4 => ?_
  refine wpAny_landsW held4 fun h5 fl5 sm5 => ?_
  have I5 : Inv X pins σ H' { s1 with heap := h5 } := I0.land (os' := s1.os) F hB fl5 (sm4.trans sm5)
  obtain ⟨ob, hob, hobc⟩ := fl5.there
  refine wpAny_handleBy_cons (codeAny_handlers_test (ld_glob (I5.suite e) hg er.gl ?_ hd)) (by intro z; cases z)
  refine exc_takes I5.kIn kC er.ok sub hob hobc (codeAny_handlers_suite ?_)
  refine lands_againW fl5 fun h6 fl6 sm6 => ?_
  have I6 : Inv X pins σ H' { s1 with heap := h6 } := I0.land (os' := s1.os) F hB fl6 ((sm4.trans sm5).trans sm6)
  obtain ⟨ob6, hob6, hobc6⟩ := fl6.there
  have nS0 : X.s₀.heap.get? e = none := by
    cases z : X.s₀.heap.get? e with
    | none => rfl
    | some o =>
      obtain ⟨u, eu⟩ := I0.old hex z
      rw [F.newS] at eu; cases eu
  have there0 : ∀ b o, s0.heap.get? b = some o → b ≠ e := fun b o z w => by rw [w, F.newS] at z; cases z
  have I7 : Inv X pins σ (upd H' e (excO e (.ref C))) { s1 with heap := h6 } := by
    refine I6.track (o := ob6) F.new nS0 (fun z => ?_) (fun y c z => ?_) (fun p z => ?_) ⟨⟨ob6, hob6, hobc6⟩, ⟨ob6, hob6⟩, fun h1 h2 ⟨o, e1, e2⟩ k => ⟨o, k o e1, e2⟩⟩
    · obtain ⟨m, ⟨o, _, _, ho, _⟩, _⟩ := I0.loc
      exact there0 _ o ho z.symm
    · obtain ⟨v, o, ho, _⟩ := I0.cell y c z
      exact there0 _ o ho
    · exact there0 _ _ (I0.pin p z).1
  refine wpAny_mono (hs e pins { s1 with heap := h6 } σ _ _ (I7.suite e) (q e F.new)) (fun f s9 q9 => ?_) fun _ _ z => False.elim z
  cases f with
  | next => obtain ⟨σ9, H9, I9, q9⟩ := q9; exact ⟨σ9, H9, I9.unsuite I.ok, q9⟩
  | brk => obtain ⟨σ9, H9, I9, q9⟩ := q9; exact ⟨σ9, H9, I9.unsuite I.ok, q9⟩
  | cont => obtain ⟨σ9, H9, I9, q9⟩ := q9; exact ⟨σ9, H9, I9.unsuite I.ok, q9⟩
  | ret u => obtain ⟨v, σ9, H9, I9, r9, q9⟩ := q9; exact ⟨v, σ9, H9, I9.unsuite I.ok, r9, q9⟩
end
end L2
namespace L2
open PySem PySem.Spec PyProof.Rows
structure Exi (K : PySem.W.Frag) (C : Addr) : Prop where
  ok : PySem.W.excIn K C valueErr "ValueError.__new__" = true
  cls : (PySem.W.clsIn K C).isSome = true
  ga : PySem.W.findIn K (.ref C) "__getattribute__" = some (some (.builtin "BaseException.__getattribute__"))
  gt : PySem.W.findIn K (.ref C) "__getattr__" = some none
  cl : PySem.W.findIn K (.ref C) "__class__" = some (some (.builtin "object.__class__"))
section
variable {prog : Program} {w : World} {A : Around} {E : Value → Shared → Prop} {h : Heap} {g : Array GenState} {d : Drawn} {t : Nat} {os : OsState} {a C : Addr} {o : Obj} {K : PySem.W.Frag}
theorem exi_sub {M : Model} {T : String} {Q : Bool → Shared → Prop} (X : K.In h) (x : Exi K C) (hT : valueErr.contains (.type T) = true) (hq : Q true ⟨h, g, d, t, os⟩) : wpAny M A (isSubtype (.ref C) (.type T)) Q E ⟨h, g, d, t, os⟩ := by
  obtain ⟨bm, N, nm, q, bs, hdct, sn, sub, ab, col, dd, k0, k1, k2, k3, k5, mN, hC, hN, hni, T'⟩ := own_obj X x.ok
  have hc : (Value.ref C :: bm).contains (.type T) = true := by rw [List.contains_cons, T'.hasType hT, Bool.or_true]
  refine wpAny_isSubtype_exc hC ?_
  rw [hc]
  exact hq
theorem exi_get {R : Result → Shared → Prop} (X : K.In h) (x : Exi K C) (hx : h.get? a = some o) (hc : o.cls = .ref C) (hq : R (.ok (.ret (.ref C))) ⟨h, g, d, t, os⟩) :
    codeAny (model prog w) A (.call (.builtin "getset_descriptor.__get__") ⟨[.builtin "object.__class__", .ref a, .ref C], []⟩) R ⟨h, g, d, t, os⟩ := by
  have hT5 : (⟨h, g, d, t, os⟩ : Shared).TypeIs (.builtin "object.__class__") "getset_descriptor" := F.typeOf_object_class
  refine codeAny_call_builtin F.slot_gs_get.plain F.entry_gs_get (F.slot_gs_get.check _ _ _ _ _ _ _ _ hT5 (F.args_gs_get _ _ _) ?_)
  repeat (any_goals (first | assumption | (with_reducible refine wpAny_loadPart_at hx ?_; rw [hc]) | (rw [F.owner_object_class]; with_reducible refine exi_sub X x (by decide) ?_) | wp_step))
  refine ⟨Code.quiet_builtin _ (by decide +kernel), codeAny_builtin F.entry_object_class ?_⟩
  repeat (any_goals (first | assumption | (with_reducible refine wpAny_loadPart_at hx ?_; rw [hc]) | wp_step))
theorem exi_entry {tk : Tok} {Q : Fin → Shared → Prop} (X : K.In h) (x : Exi K C) (hx : h.get? a = some o) (hc : o.cls = .ref C) (hq : Q (.done (.ret (.ref C))) ⟨h, g, d, t, os⟩) :
    wpAny (model prog w) A (Builtin.«object.__getattribute__» ⟨[.ref a, .str "__class__" tk], []⟩) Q E ⟨h, g, d, t, os⟩ := by
  have hT5 : (⟨h, g, d, t, os⟩ : Shared).TypeIs (.builtin "object.__class__") "getset_descriptor" := F.typeOf_object_class
  have f5 := F.typeOf_object_class
  have f6 := F.slot_gs_get.lookup
  have f7 := F.slot_gs_set.lookup
  have L := PySem.W.looks_findIn (M := model prog w) X x.cl
  repeat (any_goals (first | assumption | (with_reducible refine wpAny_loadPart_at hx ?_; rw [hc]) | with_reducible refine L.at ?_ | wp_step))
  refine exi_get X x hx hc ?_
  repeat (any_goals (first | assumption | wp_step))
theorem exi_check {M : Model} {nameV : Value} {Q : Unit → Shared → Prop} (X : K.In h) (x : Exi K C) (hx : h.get? a = some o) (hc : o.cls = .ref C) (hq : Q () ⟨h, g, d, t, os⟩) :
    wpAny M A (checkBuiltinCall "BaseException.__getattribute__" ⟨[.ref a, nameV], []⟩) Q E ⟨h, g, d, t, os⟩ := by
  have hk : builtinKind "BaseException.__getattribute__" = some .slot := by decide +kernel
  have hsplit : splitId "BaseException.__getattribute__" = some ("BaseException", "__getattribute__") := by decide +kernel
  have ha := F.args_bexc_ga (.ref a) nameV
  simp only [checkBuiltinCall, hk, hsplit]
  refine wpAny_bind ?_
  · unfold isInstance
    repeat (first | (with_reducible refine wpAny_loadPart_at hx ?_; rw [hc]) | (with_reducible refine exi_sub X x (by decide) ?_) | wp_step)
    exact hq
theorem exi_call {tk : Tok} {R : Result → Shared → Prop} (X : K.In h) (x : Exi K C) (hx : h.get? a = some o) (hc : o.cls = .ref C) (hq : R (.ok (.ret (.ref C))) ⟨h, g, d, t, os⟩) :
    codeAny (model prog w) A (.call (.builtin "BaseException.__getattribute__") ⟨[.ref a, .str "__class__" tk], []⟩) R ⟨h, g, d, t, os⟩ :=
  codeAny_call_builtin F.attr_ValueError.ga.plain F.entry_bexc_ga (exi_check X x hx hc (exi_entry X x hx hc hq))
theorem exi_by {tk : Tok} {Q : Value → Shared → Prop} (X : K.In h) (x : Exi K C) (hx : h.get? a = some o) (hc : o.cls = .ref C) (hq : Q (.ref C) ⟨h, g, d, t, os⟩) : wpAny (model prog w) A (getAttrBy (.ref a) (.str "__class__" tk) false) Q E ⟨h, g, d, t, os⟩ := by
  have f3 := F.attr_ValueError.ga.bind (.ref a)
  have hx2 : (Value.builtin "BaseException.__getattribute__" == Value.builtin "object.__getattribute__") = false := by decide +kernel
  have hx1 : (onTheHeap (Value.ref C) && Value.builtin "BaseException.__getattribute__" == Value.builtin "object.__getattribute__") = false := by rw [hx2]; rfl
  have L1 := PySem.W.looks_findIn (M := model prog w) X x.ga
  have L2' := PySem.W.looks_findIn (M := model prog w) X x.gt
  repeat (any_goals (first | assumption | (with_reducible refine wpAny_loadPart_at hx ?_; rw [hc]) | with_reducible refine L1.at ?_ | with_reducible refine L2'.at ?_ | wp_step))
  refine exi_call X x hx hc ?_
  repeat (any_goals (first | assumption | wp_step))
theorem exi_attr {Q : Option Value → Shared → Prop} (X : K.In h) (x : Exi K C) (hx : h.get? a = some o) (hc : o.cls = .ref C) (hq : Q (some (.ref C)) ⟨h, g, d, t + 1, os⟩) : wpAny (model prog w) A (getAttr? (.ref a) "__class__") Q E ⟨h, g, d, t, os⟩ := by
  unfold getAttr? getAttrBy?
  repeat (any_goals (first | assumption | with_reducible apply exi_by X x hx hc | wp_step))
end
def ExcAt (e C : Addr) (h : Heap) : Prop := ∃ o, h.get? e = some o ∧ o.cls = .ref C
theorem kitx_exc {K : PySem.W.Frag} {e C : Addr} (x : Exi K C) : PySem.W.KitX K (.ref e) (.ref C) (ExcAt e C) where
  ty := fun M h _ p => by
    obtain ⟨o, h1, h2⟩ := p
    exact h2 ▸ (PySem.W.Looks.ld h1).andThen .now
  it := fun _ _ X _ => by
    have hcD := x.cls
    unfold PySem.W.clsIn at hcD
    split at hcD
    · rename_i c' d' cd' sl' ho
      intro A' Q' E' s' k q
      unfold isType loadHead
      exact wpAny_bind (wpAny_loadPart (k _ _ (X _ _ ho)) (wpAny_pure q))
    · cases hcD
  ne := fun h tp dd its n sl X htp => by
    have hcD := x.cls
    refine Bool.eq_false_iff.mpr fun q => ?_
    have e : C = tp := Value.ref.inj (beq_iff_eq.mp q)
    subst e
    unfold PySem.W.clsIn at hcD
    split at hcD
    · rename_i c' d' cd' sl' ho
      have z := (X _ _ ho).symm.trans htp
      cases z
    · cases hcD
  ca := fun {_ _ _ _ _ s} X p k => by
    obtain ⟨h, g, d, t, os⟩ := s
    obtain ⟨o, h1, h2⟩ := p
    exact exi_attr X x h1 h2 k
theorem call_isinE {X : Cx} : CallR X (.builtin "isinstance") (fun xs H Q => ∃ e C c b, xs = [.ref e, c] ∧ H e = some (excO e (.ref C)) ∧ Exi X.K C ∧ (∃ u, RelV c u ∧ (∀ u', RelV c u' → u' = u) ∧ PySem.W.kitOne X.K (.ref C) u = some b) ∧ Q (.bl b) H) := by
  intro pins s σ H xs us Q I r h
  obtain ⟨e, C, c, b, rfl, he, x, ⟨u, ru, uq, k⟩, q⟩ := h
  obtain ⟨v, w', rfl, rv, rw'⟩ := vals2 r
  cases (show v = Value.ref e from rv)
  rw [uq w' rw']
  obtain ⟨p, _, _⟩ := (show ObjOk X.prog X.w H s.heap e (excO e (.ref C)) from I.hok e _ he)
  exact PySem.W.kia_one (kitx_exc x) I.kIn p k (fun z => nomatch z) fun tk => ⟨.bl b, H, I.tok _, rfl, q⟩
end L2
namespace Mth
def worthF : List Int → Int
  | [] => 0
  | x :: r => 2 * worthF r + x
def apart : Bool → List Int → Bool
  | _, [] => true
  | b, x :: r => if x = 2 then (if b then false else apart true r) else if x < 1 then apart false r else apart b r
def parted2 : List Int → Bool
  | [] => true
  | x :: r => if x < 1 then true else if x = 2 then false else parted2 r
def isFig (x : Int) : Bool := decide (-1 ≤ x) && decide (x ≤ 2)
def each2 : List Int → Bool
  | [] => true
  | x :: r => (!decide (x = 2) || parted2 r) && each2 r
theorem apart_eq : ∀ (b : Bool) (l : List Int), apart b l = ((!b || parted2 l) && each2 l)
  | b, [] => by cases b <;> rfl
  | b, x :: r => by
    have h1 := apart_eq true r
    have h2 := apart_eq false r
    have h3 := apart_eq b r
    unfold apart parted2 each2
    by_cases e : x = 2
    · subst e
      cases b
      · simp [h1]
      · simp
    · by_cases q : x < 1
      · simp [e, q, h2]
      · simp [e, q, h3]
def mir (l : List Int) : List Int := l.map fun x => 1 - x
theorem apart2_eq (l : List Int) : apart false l = each2 l := by rw [apart_eq]; simp
def endOk (l : List Int) : Bool := !decide (l.getLast? = some 0)
def calmF (l : List Int) : Bool := l.all isFig && (endOk l && (apart false l && apart false (mir l)))
end Mth
namespace Mth
end Mth
namespace Mth
def st2 : Bool → List Int → Bool
  | b, [] => b
  | b, x :: r => st2 (if x = 2 then true else if x < 1 then false else b) r
theorem st2_snoc : ∀ (b : Bool) (l : List Int) (x : Int), st2 b (l ++ [x]) = (if x = 2 then true else if x < 1 then false else st2 b l)
  | _, [], _ => rfl
  | b, y :: r, x => by simp only [List.cons_append, st2]; exact st2_snoc _ r x
theorem apart_append : ∀ (b : Bool) (l r : List Int), apart b (l ++ r) = (apart b l && apart (st2 b l) r)
  | b, [], r => by simp [apart, st2]
  | b, x :: l, r => by
    have h1 := apart_append true l r
    have h2 := apart_append false l r
    have h3 := apart_append b l r
    simp only [List.cons_append, apart, st2]
    by_cases e : x = 2
    · simp only [e, if_true]
      cases b
      · simpa using h1
      · simp
    · by_cases q : x < 1
      · simp only [e, q, if_false, if_true]; exact h2
      · simp only [e, q, if_false]; exact h3
theorem apart_snoc (b : Bool) (l : List Int) (x : Int) : apart b (l ++ [x]) = (apart b l && !(decide (x = 2) && st2 b l)) := by
  rw [apart_append]
  congr 1
  simp only [apart]
  by_cases e : x = 2
  · simp [e]
  · simp [e]
theorem apart_drop {l : List Int} (k : Nat) (h : apart false l = true) : apart false (l.drop k) = true := by
  rw [apart2_eq] at *
  induction k generalizing l with
  | zero => exact h
  | succ k ih =>
    cases l with
    | nil => exact h
    | cons x r => simp only [each2, Bool.and_eq_true] at h; exact ih h.2
theorem mir_append (l r : List Int) : mir (l ++ r) = mir l ++ mir r := by unfold mir; rw [List.map_append]
theorem mir_drop (l : List Int) (k : Nat) : mir (l.drop k) = (mir l).drop k := by unfold mir; rw [List.map_drop]
theorem mir_cons (x : Int) (l : List Int) : mir (x :: l) = (1 - x) :: mir l := rfl
def sgn (v : Int) : Int := if v > 0 then 1 else if v < 0 then -1 else 0
structure Held (hi : List Int) : Prop where
  val : worthF hi = 0 ∨ worthF hi = -1
  par : worthF hi = -1 → parted2 hi = true
end Mth
namespace Mth
structure Cm (l : List Int) : Prop where
  figs : ∀ x ∈ l, -1 ≤ x ∧ x ≤ 2
  a2 : apart false l = true
  aM : apart false (mir l) = true
theorem all_isFig (l : List Int) : l.all isFig = true ↔ ∀ x ∈ l, -1 ≤ x ∧ x ≤ 2 := by
  rw [List.all_eq_true]
  constructor
  · intro h x hx
    have := h x hx
    unfold isFig at this
    simpa using this
  · intro h x hx
    unfold isFig
    simpa using h x hx
theorem calmF_iff (l : List Int) : calmF l = true ↔ Cm l ∧ l.getLast? ≠ some 0 := by
  unfold calmF endOk
  simp only [Bool.and_eq_true, all_isFig, Bool.not_eq_true', decide_eq_false_iff_not]
  constructor
  · rintro ⟨a, b, c, d⟩; exact ⟨⟨a, c, d⟩, b⟩
  · rintro ⟨⟨a, c, d⟩, b⟩; exact ⟨a, b, c, d⟩
theorem Cm.nil : Cm [] := ⟨fun _ h => (nomatch h), rfl, rfl⟩
theorem Cm.drop {l : List Int} (h : Cm l) (k : Nat) : Cm (l.drop k) :=
  ⟨fun x hx => h.figs x (List.mem_of_mem_drop hx), apart_drop k h.a2, by rw [mir_drop]; exact apart_drop k h.aM⟩
theorem Cm.front {l r : List Int} (h : Cm (l ++ r)) : Cm l := by
  refine ⟨fun x hx => h.figs x (List.mem_append_left _ hx), ?_, ?_⟩
  · have := h.a2
    rw [apart_append, Bool.and_eq_true] at this
    exact this.1
  · have := h.aM
    rw [mir_append, apart_append, Bool.and_eq_true] at this
    exact this.1
theorem apart_0s (k : Nat) (r : List Int) : apart false (List.replicate k 0 ++ r) = apart false r := by
  induction k with
  | zero => rfl
  | succ k ih =>
    rw [List.replicate_succ, List.cons_append]
    simp only [apart]
    rw [if_neg (by decide), if_pos (by decide)]
    exact ih
theorem apart_1s (b : Bool) (k : Nat) (r : List Int) : apart b (List.replicate k 1 ++ r) = apart b r := by
  induction k with
  | zero => rfl
  | succ k ih =>
    rw [List.replicate_succ, List.cons_append]
    simp only [apart]
    rw [if_neg (by decide), if_neg (by decide)]
    exact ih
theorem mir_1s (k : Nat) : mir (List.replicate k 1) = List.replicate k 0 := by unfold mir; rw [List.map_replicate]; rfl
theorem Cm.ones {r : List Int} (h : Cm r) (k : Nat) : Cm (List.replicate k 1 ++ r) := by
  refine ⟨fun x hx => ?_, by rw [apart_1s]; exact h.a2, by rw [mir_append, mir_1s, apart_0s]; exact h.aM⟩
  rcases List.mem_append.mp hx with hx | hx
  · have := List.eq_of_mem_replicate hx; omega
  · exact h.figs x hx
theorem Cm.one {r : List Int} (h : Cm r) : Cm (1 :: r) := by have := h.ones 1; exact this
theorem Cm.two {r : List Int} (h : Cm r) (p : parted2 r = true) : Cm (2 :: r) := by
  refine ⟨fun x hx => ?_, ?_, ?_⟩
  · rcases List.mem_cons.mp hx with hx | hx
    · omega
    · exact h.figs x hx
  · have h2 := h.a2
    rw [apart2_eq] at h2 ⊢
    simp only [each2, Bool.and_eq_true]
    exact ⟨by simp [p], h2⟩
  · rw [mir_cons]
    simp only [apart]
    rw [if_neg (by decide), if_pos (by decide)]
    exact h.aM
structure Three (row one other long : List Int) : Prop where
  c1 : calmF one = true
  c2 : calmF other = true
  c3 : calmF long = true
  ne : sgn (worthF one) ≠ sgn (worthF other)
structure MC (acc : List Int) (two low : Bool) : Prop where
  cm : Cm acc
  f2 : st2 false acc = !two
  fM : st2 false (mir acc) = !low
theorem MC.start : MC [] true true := ⟨Cm.nil, rfl, rfl⟩
theorem MC.step {acc : List Int} {two low two' low' : Bool} {z : Int} (h : MC acc two low) (h1 : -1 ≤ z) (h2 : z ≤ 2) (g2 : z = 2 → two = true) (gM : z = -1 → low = true)
    (e2 : two' = (!decide (z = 2) && (two || decide (z < 1)))) (eM : low' = (!decide (z = -1) && (low || decide (z > 0)))) : MC (acc ++ [z]) two' low' := by
  obtain ⟨⟨hf, a2, aM⟩, f2, fM⟩ := h
  have em : mir (acc ++ [z]) = mir acc ++ [1 - z] := by rw [mir_append]; rfl
  refine ⟨⟨fun x hx => ?_, ?_, ?_⟩, ?_, ?_⟩
  · rcases List.mem_append.mp hx with hx | hx
    · exact hf x hx
    · have : x = z := List.mem_singleton.mp hx
      omega
  · rw [apart_snoc, a2, f2]
    by_cases q : z = 2
    · simp [g2 q]
    · simp [q]
  · rw [em, apart_snoc, aM, fM]
    by_cases q : z = -1
    · simp [gM q]
    · have : ¬ (1 - z = 2) := by omega
      simp [this]
  · rw [st2_snoc, f2, e2]
    by_cases q : z = 2
    · simp [q]
    · by_cases p : z < 1
      · simp [q, p]
      · simp [q, p]
  · rw [em, st2_snoc, fM, eM]
    by_cases q : z = -1
    · subst q; simp
    · have q' : ¬ (1 - z = 2) := by omega
      by_cases p : z > 0
      · have p' : 1 - z < 1 := by omega
        simp [q, q', p, p']
      · have p' : ¬ (1 - z < 1) := by omega
        simp [q, q', p, p']
theorem calm_end {acc : List Int} (h : Cm acc) (e : acc.getLast? ≠ some 0) : calmF acc = true := (calmF_iff acc).mpr ⟨h, e⟩
end Mth
namespace Mth
def Fg (l : List Int) : Prop := ∀ x ∈ l, -1 ≤ x ∧ x ≤ 2
theorem Fg.cons {x : Int} {r : List Int} (h1 : -1 ≤ x) (h2 : x ≤ 2) (h : Fg r) : Fg (x :: r) := fun y hy => by
  rcases List.mem_cons.mp hy with e | hy
  · omega
  · exact h y hy
theorem Fg.mir {l : List Int} (h : Fg l) : Fg (mir l) := fun x hx => by
  unfold Mth.mir at hx
  obtain ⟨y, hy, e⟩ := List.mem_map.mp hx
  have := h y hy
  omega
end Mth
namespace Mth
abbrev Ch := Nat × Int × Int
end Mth
namespace Mth
def calmZ (two minus : Bool) (last z : Int) : Int :=
  let z1 := if (decide (z = 2) && two) = true then (if last = 2 then 1 else 0) else z
  if (decide (z1 = -1) && minus) = true then (if last = -1 then 0 else 1) else z1
structure MD (acc : List Int) (two minus : Bool) : Prop where
  cm : Cm acc
  f2 : st2 false acc = two
  fM : st2 false (mir acc) = minus
theorem MD.start : MD [] false false := ⟨Cm.nil, rfl, rfl⟩
theorem MD.put {acc : List Int} {two minus : Bool} (h : MD acc two minus) {z : Int} (h1 : -1 ≤ z) (h2 : z ≤ 2) (g2 : z = 2 → two = false) (gM : z = -1 → minus = false) :
    MD (acc ++ [z]) (decide (z = 2) || (two && decide (z = 1))) (decide (z = -1) || (minus && decide (z = 0))) := by
  have m : MC acc (!two) (!minus) := ⟨h.cm, by rw [h.f2, Bool.not_not], by rw [h.fM, Bool.not_not]⟩
  have q := m.step (two' := !(decide (z = 2) || (two && decide (z = 1)))) (low' := !(decide (z = -1) || (minus && decide (z = 0)))) h1 h2 (fun e => by rw [g2 e]; rfl) (fun e => by rw [gM e]; rfl) ?_ ?_
  · exact ⟨q.cm, by rw [q.f2, Bool.not_not], by rw [q.fM, Bool.not_not]⟩
  · have c : z = -1 ∨ z = 0 ∨ z = 1 ∨ z = 2 := by omega
    rcases c with rfl | rfl | rfl | rfl <;> cases two <;> rfl
  · have c : z = -1 ∨ z = 0 ∨ z = 1 ∨ z = 2 := by omega
    rcases c with rfl | rfl | rfl | rfl <;> cases minus <;> rfl
theorem calmZ_ok (two minus : Bool) (last : Int) {z : Int} (h1 : -1 ≤ z) (h2 : z ≤ 2) : -1 ≤ calmZ two minus last z ∧ calmZ two minus last z ≤ 2 ∧ (calmZ two minus last z = 2 → two = false) ∧ (calmZ two minus last z = -1 → minus = false) := by
  have c : z = -1 ∨ z = 0 ∨ z = 1 ∨ z = 2 := by omega
  unfold calmZ
  by_cases a : last = 2
  · subst a
    rcases c with rfl | rfl | rfl | rfl <;> cases two <;> cases minus <;> decide
  · by_cases b : last = -1
    · subst b
      rcases c with rfl | rfl | rfl | rfl <;> cases two <;> cases minus <;> decide
    · rcases c with rfl | rfl | rfl | rfl <;> cases two <;> cases minus <;> simp [a, b]
theorem MD.step {acc : List Int} {two minus : Bool} (h : MD acc two minus) (last : Int) {z : Int} (h1 : -1 ≤ z) (h2 : z ≤ 2) :
    MD (acc ++ [calmZ two minus last z]) (decide (calmZ two minus last z = 2) || (two && decide (calmZ two minus last z = 1))) (decide (calmZ two minus last z = -1) || (minus && decide (calmZ two minus last z = 0))) := by
  obtain ⟨a, b, c, d⟩ := calmZ_ok two minus last h1 h2
  exact h.put a b c d
def cntF : Int → Int → List Int → Bool
  | _, _, [] => true
  | tw, lw, x :: r =>
    if x < -1 ∨ 2 < x then false else
    let tw1 := if x = 2 then tw + 1 else tw
    let tw2 := if x < 1 then 0 else tw1
    let lw1 := if x = -1 then lw + 1 else lw
    let lw2 := if 0 < x then 0 else lw1
    if 1 < tw2 ∨ 1 < lw2 then false else cntF tw2 lw2 r
theorem cnt_eq : ∀ (l : List Int) (b c : Bool), cntF (if b then 1 else 0) (if c then 1 else 0) l = (l.all isFig && (apart b l && apart c (mir l)))
  | [], b, c => by cases b <;> cases c <;> rfl
  | x :: r, b, c => by
    rw [mir_cons]
    by_cases h : x < -1 ∨ 2 < x
    · have e : isFig x = false := by
        unfold isFig
        rcases h with h | h
        · rw [decide_eq_false (show ¬ -1 ≤ x by omega)]; rfl
        · rw [decide_eq_false (show ¬ x ≤ 2 by omega), Bool.and_false]
      simp only [cntF, List.all_cons, e, Bool.false_and]
      rw [if_pos h]
    · have e : isFig x = true := by
        unfold isFig
        rw [decide_eq_true (show -1 ≤ x by omega), decide_eq_true (show x ≤ 2 by omega)]; rfl
      have q : x = -1 ∨ x = 0 ∨ x = 1 ∨ x = 2 := by omega
      have i00 := cnt_eq r false false
      have i01 := cnt_eq r false true
      have i10 := cnt_eq r true false
      simp only [List.all_cons, e, Bool.true_and]
      rcases q with rfl | rfl | rfl | rfl
      · cases c
        · cases b <;> (simp [cntF, apart]; simpa using i01)
        · cases b <;> simp [cntF, apart]
      · cases c
        · cases b <;> (simp [cntF, apart]; simpa using i00)
        · cases b <;> (simp [cntF, apart]; simpa using i01)
      · cases b
        · cases c <;> (simp [cntF, apart]; simpa using i00)
        · cases c <;> (simp [cntF, apart]; simpa using i10)
      · cases b
        · cases c <;> (simp [cntF, apart]; simpa using i10)
        · cases c <;> simp [cntF, apart]
theorem calm_cnt (l : List Int) : calmF l = (cntF 0 0 l && endOk l) := by
  have := cnt_eq l false false
  have e : cntF 0 0 l = cntF (if false then 1 else 0) (if false then 1 else 0) l := rfl
  rw [e, this]
  unfold calmF
  cases l.all isFig <;> cases endOk l <;> cases apart false l <;> cases apart false (mir l) <;> rfl
end Mth
namespace Mth
end Mth
namespace Mth
end Mth
namespace Mth
def cod (z : Int) : Nat := if z = -1 then 45 else if z = 0 then 48 else if z = 1 then 49 else 50
def dg (c : Nat) : Option Int := if c = 45 then some (-1) else if c = 48 then some 0 else if c = 49 then some 1 else if c = 50 then some 2 else none
def dgs : List Nat → Option (List Int)
  | [] => some []
  | c :: r => (dg c).bind fun z => (dgs r).map fun zs => z :: zs
def textF (ns : List Int) : List Nat := if ns = [] then [48] else (ns.map cod).reverse
def readF (cs : List Nat) : Option (List Int) := if cs = [48] then some [] else (dgs cs.reverse).bind fun ys => if ys = [] then none else if calmF ys = true then some ys else none
theorem dg_cod {z : Int} (h : isFig z = true) : dg (cod z) = some z := by
  have h' : -1 ≤ z ∧ z ≤ 2 := by simpa [isFig] using h
  have : z = -1 ∨ z = 0 ∨ z = 1 ∨ z = 2 := by omega
  rcases this with rfl | rfl | rfl | rfl <;> rfl
theorem dgs_cod : ∀ {ns : List Int}, ns.all isFig = true → dgs (ns.map cod) = some ns
  | [], _ => rfl
  | z :: r, h => by
    rw [List.all_cons, Bool.and_eq_true] at h
    show (dg (cod z)).bind (fun z => (dgs (r.map cod)).map fun zs => z :: zs) = some (z :: r)
    rw [dg_cod h.1, dgs_cod h.2]
    rfl
theorem dgs_len : ∀ {cs : List Nat} {ys : List Int}, dgs cs = some ys → ys.length = cs.length
  | [], ys, h => by cases h; rfl
  | c :: r, ys, h => by
    simp only [dgs, Option.bind_eq_some_iff, Option.map_eq_some_iff] at h
    obtain ⟨z, _, zs, e, rfl⟩ := h
    rw [List.length_cons, List.length_cons, dgs_len e]
theorem dgs_snoc : ∀ {l : List Nat} {ys : List Int} {c : Nat} {z : Int}, dgs l = some ys → dg c = some z → dgs (l ++ [c]) = some (ys ++ [z])
  | [], ys, c, z, h, e => by
    cases h
    show (dg c).bind (fun z => (dgs []).map fun zs => z :: zs) = _
    rw [e]; rfl
  | d :: r, ys, c, z, h, e => by
    simp only [dgs, Option.bind_eq_some_iff, Option.map_eq_some_iff] at h
    obtain ⟨w, e1, zs, e2, rfl⟩ := h
    show (dg d).bind (fun z => (dgs (r ++ [c])).map fun zs => z :: zs) = _
    rw [e1, dgs_snoc e2 e]; rfl
theorem dgs_none : ∀ {l : List Nat} {i c : Nat}, l[i]? = some c → dg c = none → dgs l = none
  | [], i, c, h, _ => by simp at h
  | d :: r, 0, c, h, e => by
    have : d = c := by simpa using h
    subst this
    show (dg d).bind _ = _
    rw [e]; rfl
  | d :: r, i + 1, c, h, e => by
    have h' : r[i]? = some c := by simpa using h
    show (dg d).bind (fun z => (dgs r).map fun zs => z :: zs) = _
    rw [dgs_none h' e]
    cases dg d <;> rfl
theorem calm_figs {ns : List Int} (h : calmF ns = true) : ∀ z ∈ ns, -1 ≤ z ∧ z ≤ 2 := by
  have hall : ns.all isFig = true := by
    unfold calmF at h
    simp only [Bool.and_eq_true] at h
    exact h.1
  intro z hz
  have := List.all_eq_true.mp hall z hz
  simpa [isFig] using this
theorem dg_fig {c : Nat} {z : Int} (h : dg c = some z) : -1 ≤ z ∧ z ≤ 2 := by
  unfold dg at h
  split at h
  · cases h; decide
  · split at h
    · cases h; decide
    · split at h
      · cases h; decide
      · split at h
        · cases h; decide
        · cases h
theorem text_ne (ns : List Int) : textF ns ≠ [] := by
  unfold textF
  split
  · decide
  · rename_i h
    intro e
    apply h
    have := congrArg List.length e
    simpa using this
theorem text_len (ns : List Int) : (textF ns).length ≤ ns.length + 1 := by
  unfold textF
  split
  · simp
  · simp
theorem read_text {ns : List Int} (h : calmF ns = true) : readF (textF ns) = some ns := by
  unfold textF readF
  split
  · rename_i e; subst e; rfl
  · rename_i hne
    have hall : ns.all isFig = true := by
      unfold calmF at h
      simp only [Bool.and_eq_true] at h
      exact h.1
    have hn : (ns.map cod).reverse ≠ [48] := by
      intro e
      have e2 : ns.map cod = [48] := by
        have := congrArg List.reverse e
        simpa using this
      cases ns with
      | nil => cases e2
      | cons z r =>
        cases r with
        | cons y s => simp at e2
        | nil =>
          have e3 : cod z = 48 := by simpa using e2
          have hz := dg_cod (z := z) (by simpa using hall)
          rw [e3] at hz
          have : z = 0 := by
            have : some (0 : Int) = some z := hz
            injection this with this
            exact this.symm
          subst this
          revert h
          decide
    rw [if_neg hn, List.reverse_reverse, dgs_cod hall]
    show (if ns = [] then none else if calmF ns = true then some ns else none) = some ns
    rw [if_neg hne, if_pos h]
theorem read_len {cs : List Nat} {ys : List Int} (h : readF cs = some ys) : ys.length ≤ cs.length := by
  unfold readF at h
  split at h
  · cases h; simp
  · simp only [Option.bind_eq_some_iff] at h
    obtain ⟨zs, e, h⟩ := h
    have := dgs_len e
    rw [List.length_reverse] at this
    split at h
    · cases h
    · split at h
      · cases h; omega
      · cases h
end Mth
namespace L2
open PySem PySem.Spec PyProof.Rows

section
variable {X : Cx} {tg : Expr}
end
def ch3 (t : Mth.Ch) : List Int := [(t.1 : Int), t.2.1, t.2.2]
def ChL (H : Hp) (r : Addr) (c : List Mth.Ch) : Prop := ∃ as : List Addr, H r = some (.lst (as.map V.ref)) ∧ Paired (fun a t => H a = some (.tup (iv (ch3 t)))) as c
theorem Paired.len {α β : Type} {F : α → β → Prop} : ∀ {xs : List α} {ys : List β}, Paired F xs ys → xs.length = ys.length
  | _, _, .nil => rfl
  | _, _, .cons _ r => by rw [List.length_cons, List.length_cons, Paired.len r]
theorem Paired.at {α β : Type} {F : α → β → Prop} : ∀ {xs : List α} {ys : List β} {i : Nat} {x : α}, Paired F xs ys → xs[i]? = some x → ∃ y, ys[i]? = some y ∧ F x y
  | _, _, i, _, .nil, e => by simp at e
  | _, _, 0, x, .cons h _, e => by simp at e; subst e; exact ⟨_, rfl, h⟩
  | _, _, i + 1, x, .cons _ r, e => by
    obtain ⟨y, e1, e2⟩ := Paired.at (i := i) r (by simpa using e)
    exact ⟨y, by simpa using e1, e2⟩
end L2
namespace L2
open PySem PySem.Spec PyProof.Rows
structure FunD (K : PySem.W.Frag) (x qual : Str) (st : Stmt) (f : Addr) (fd : FuncData) : Prop where
  ex : ∃ (oc : Value) (od : Option Addr) (dV kV doc pm : Value) (an : Option Addr) (cdv ct : Value) (osl : Array (Option Value)),
    fd = PySem.W.fnOf x qual (defArgs st) (defBody st) (defScope st) dV kV doc pm an cdv ct ∧ K.lookup f = some ⟨oc, od, .func fd, osl⟩ ∧ PySem.W.codeIn K cdv qual = true
  kp : PySem.W.keepIn K (.ref f) = true
section
variable {P : Program} {w : World} {K : PySem.W.Frag} {mg : Str → Option Value} {base : Heap}
theorem FunD.ok {x qual : Str} {st : Stmt} {f : Addr} {fd : FuncData} {N ps : List Str} {k : Nat} {sp : Sp} (F : FunD K x qual st f fd) (S : FnScope N ps (defScope st)) (len : ∀ vs H Q E, sp vs H Q E → vs.length = ps.length)
    (hbody : ∀ (cdv : Value) (A : Around) (outer : List Env) (s : Shared) (H : Hp) (vs : List V) (Q : VK) (E : XK), Room k (A.deeper (envOfC qual (defScope st) s.heap.objs.size f cdv)) → sp vs H Q E →
      ∃ t, PSs (cxOf CX0 P w K mg base N qual (defScope st) f cdv A outer s H E).nox (defBody st) t ∧ t { nx := fun _ H' => Q .non H', rt := Q } (start N vs) H) : FnOk P w K mg base CX0 (k + 1) f fd ps sp := by
  obtain ⟨oc, od, dV, kV, doc, pm, an, cdv, ct, osl, rfl, lk, hcd⟩ := F.ex
  refine fn_of lk hcd S len fun A outer s H vs Q E hr hsp => ?_
  obtain ⟨t, h, q⟩ := hbody cdv A outer s H vs Q E hr hsp
  exact ⟨t, h.nox, q⟩
theorem FunD.okE {x qual : Str} {st : Stmt} {f : Addr} {fd : FuncData} {N ps : List Str} {k : Nat} {sp : Sp} (F : FunD K x qual st f fd) (S : FnScope N ps (defScope st)) (len : ∀ vs H Q E, sp vs H Q E → vs.length = ps.length)
    (hbody : ∀ (cdv : Value) (A : Around) (outer : List Env) (s : Shared) (H : Hp) (vs : List V) (Q : VK) (E : XK), Room k (A.deeper (envOfC qual (defScope st) s.heap.objs.size f cdv)) → sp vs H Q E →
      ∃ t, PSs (cxE P w K mg base N qual (defScope st) f cdv A outer s H E) (defBody st) t ∧ t { nx := fun _ H' => Q .non H', rt := Q } (start N vs) H) : FnOk P w K mg base (CX1 P w) (k + 1) f fd ps sp := by
  obtain ⟨oc, od, dV, kV, doc, pm, an, cdv, ct, osl, rfl, lk, hcd⟩ := F.ex
  exact fn_of lk hcd S len fun A outer s H vs Q E hr hsp => hbody cdv A outer s H vs Q E hr hsp
end
end L2
namespace L2
open PySem PySem.Spec PyProof.Rows
abbrev TupsAt (H : Hp) (as : List Addr) (c : List Mth.Ch) : Prop := Paired (fun a t => H a = some (.tup (iv (ch3 t)))) as c
section
variable {σ : St} {H : Hp} {K : PySem.W.Frag} {D : Ends}
end
section
variable {σ : St} {H : Hp} {K : PySem.W.Frag} {D : Ends}
theorem st_te {te : TE} {i : Nat} (h : te σ H fun x H1 => gName i x σ H1 D.nx) : tAsg te (gName i) D σ H := h
end
def litE : Expr → Option Int
  | .Constant (.int i) _ _ => some i
  | .UnaryOp .USub (.Constant (.int i) _ _) _ => some (-i)
  | _ => none
def tVals (vs : List Int) : TA := fun _ H Q => Q (iv vs) H
def tLits (vs : List Int) : TE := fun _ H Q => ∀ p, H p = none → Q (.ref p) (upd H p (.lst (iv vs)))
section
variable {X : Cx}
theorem pe_lit {e : Expr} {i : Int} (h : litE e = some i) : PE X e (tC (.int i)) := by
  unfold litE at h
  split at h
  · cases h; exact pe_int
  · cases h
    exact fun pins s σ H Q I q => (pe_un un_neg pe_int) pins s σ H Q I ⟨_, rfl, q⟩
  · cases h
theorem pa_lits : ∀ {es : List Expr} {vs : List Int}, es.map litE = vs.map some → PA X es (tVals vs)
  | [], [], _ => pa_nil
  | [], _ :: _, h => by cases h
  | _ :: _, [], h => by cases h
  | e :: es, v :: vs, h => by
    injection h with h1 h2
    refine pa_cons (pe_lit h1) (pa_lits h2) ?_
    unfold litE at h1
    split at h1 <;> first | rfl | cases h1
theorem pe_lits {es : List Expr} {vs : List Int} {pos : Pos} (h : es.map litE = vs.map some) (hz : vs.length ≤ 1000) : PE X (.List es pos) (tLits vs) := fun pins s σ H Q I q =>
  (pe_lst (pa_lits h)) pins s σ H Q I ⟨small (by rw [ints_len]; exact hz), q⟩
end
theorem te_lits3 {v1 v2 v3 : List Int} {σ : St} {H : Hp} {Q : VK}
    (q : ∀ m0 m1 m2 m H', Same H H' → H' m0 = some (.lst (iv v1)) → H' m1 = some (.lst (iv v2)) → H' m2 = some (.lst (iv v3)) → H' m = some (.lst [.ref m0, .ref m1, .ref m2]) → Q (.ref m) H') : tLst (tCons (tLits v1) (tCons (tLits v2) (tCons (tLits v3) tNil))) σ H Q :=
  fun m0 n0 m1 n1 m2 n2 => ⟨small (by show 3 ≤ 1000; decide), fun m nm =>
    q m0 m1 m2 m _ ((((same_new n0 _).trans (same_new n1 _)).trans (same_new n2 _)).trans (same_new nm _)) (same_new nm _ _ _ (same_new n2 _ _ _ (same_new n1 _ _ _ upd_same))) (same_new nm _ _ _ (same_new n2 _ _ _ upd_same)) (same_new nm _ _ _ upd_same) upd_same⟩
section
variable {σ : St} {H : Hp} {K : PySem.W.Frag} {D : Ends}
end
end L2
namespace L2
open PySem PySem.Spec PyProof.Rows

def clOf (env : Env) : List (Str × NameKind) → List (Str × Addr) → List (Str × Addr)
  | [], cs => cs
  | (n, k) :: r, cs => if k == .free then (match env.cells.lookup n with | some c => clOf env r ((n, c) :: cs) | none => clOf env r cs) else clOf env r cs
theorem clOf_sub {env : Env} : ∀ (ns : List (Str × NameKind)) (cs : List (Str × Addr)), (∀ x c, cs.lookup x = some c → env.cells.lookup x = some c) → ∀ x c, (clOf env ns cs).lookup x = some c → env.cells.lookup x = some c
  | [], cs, h, x, c, e => h x c e
  | (n, k) :: r, cs, h, x, c, e => by
    unfold clOf at e
    split at e
    · split at e
      · next c' hc =>
        refine clOf_sub r _ (fun y d ed => ?_) x c e
        rw [List.lookup_cons] at ed
        split at ed
        · next hy =>
          have : y = n := by simpa using hy
          cases ed; rw [this]; exact hc
        · exact h y d ed
      · exact clOf_sub r cs h x c e
    · exact clOf_sub r cs h x c e
theorem clOf_keep {env : Env} : ∀ (ns : List (Str × NameKind)) (cs : List (Str × Addr)) (x : Str), (∃ c, cs.lookup x = some c) → ∃ c, (clOf env ns cs).lookup x = some c
  | [], cs, x, h => h
  | (n, k) :: r, cs, x, h => by
    unfold clOf
    split
    · split
      · next c' hc =>
        refine clOf_keep r _ x ?_
        rw [List.lookup_cons]
        split
        · exact ⟨_, rfl⟩
        · exact h
      · exact clOf_keep r cs x h
    · exact clOf_keep r cs x h
theorem clOf_has {env : Env} : ∀ (ns : List (Str × NameKind)) (cs : List (Str × Addr)) (x : Str), (x, NameKind.free) ∈ ns → (∃ c, env.cells.lookup x = some c) → ∃ c, (clOf env ns cs).lookup x = some c
  | (n, k) :: r, cs, x, hm, h => by
    unfold clOf
    rcases List.mem_cons.mp hm with e | hm
    · cases e
      obtain ⟨c, hc⟩ := h
      rw [if_pos (by decide), hc]
      exact clOf_keep r ((n, c) :: cs) n ⟨c, by simp [List.lookup_cons]⟩
    · split
      · split
        · exact clOf_has r _ x hm h
        · exact clOf_has r _ x hm h
      · exact clOf_has r _ x hm h
theorem clos_ok {scope : Scope} {env : Env} (h : ∀ x ∈ scope.names, x.2 = .free → ∃ c, env.cells.lookup x.1 = some c) : closureFor scope env = pure (clOf env scope.names []) := by
  have go : ∀ (ns : List (Str × NameKind)) (cs : List (Str × Addr)), (∀ x ∈ ns, x.2 = .free → ∃ c, env.cells.lookup x.1 = some c) →
      (forIn ns cs fun (x : Str × NameKind) (r : List (Str × Addr)) => (if (x.2 == NameKind.free) = true then (do let a ← cellOf env x.1; pure (ForInStep.yield ((x.1, a) :: r))) else pure (ForInStep.yield r) : Sem _)) = (pure (clOf env ns cs) : Sem _) := by
    intro ns
    induction ns with
    | nil => intro cs _; rfl
    | cons x r ih =>
      intro cs hh
      obtain ⟨n, k⟩ := x
      rw [List.forIn_cons]
      have ih' := fun cs => ih cs fun y hy => hh y (List.mem_cons_of_mem _ hy)
      by_cases hk : (k == NameKind.free) = true
      · obtain ⟨c, hc⟩ := hh (n, k) List.mem_cons_self (by simpa using hk)
        have hc' : env.cells.lookup n = some c := hc
        have e1 : cellOf env n = (pure c : Sem Addr) := by unfold cellOf; rw [hc']
        have e2 : clOf env ((n, k) :: r) cs = clOf env r ((n, c) :: cs) := by rw [clOf, if_pos hk, hc']
        simp only [hk, if_true, e1, pure_bind]
        rw [ih', e2]
      · have e2 : clOf env ((n, k) :: r) cs = clOf env r cs := by rw [clOf, if_neg hk]
        simp only [hk, if_false, pure_bind, Bool.false_eq_true]
        rw [ih', e2]
  have := go scope.names [] h
  simp only [closureFor]
  rw [this]
  rfl
theorem lookup_relabel_free {env : Env} : ∀ {names : List (Str × NameKind)} {x : Str}, names.lookup x = some .free →
    (names.map fun (n, k) => if (k == NameKind.free && env.scope.kind == .function && env.kindOf n == some .cell) then (n, NameKind.cell) else (n, k)).lookup x = some .cell ∨
    (names.map fun (n, k) => if (k == NameKind.free && env.scope.kind == .function && env.kindOf n == some .cell) then (n, NameKind.cell) else (n, k)).lookup x = some .free
  | [], _, h => by simp at h
  | (n, k) :: r, x, h => by
    have ih := @lookup_relabel_free env r x
    show List.lookup x ((if (k == NameKind.free && env.scope.kind == .function && env.kindOf n == some .cell) = true then (n, NameKind.cell) else (n, k)) :: _) = _ ∨ List.lookup x ((if (k == NameKind.free && env.scope.kind == .function && env.kindOf n == some .cell) = true then (n, NameKind.cell) else (n, k)) :: _) = _
    cases hx : x == n with
    | true =>
      simp only [List.lookup_cons, hx] at h
      cases h
      by_cases hc : (NameKind.free == NameKind.free && env.scope.kind == .function && env.kindOf n == some .cell) = true
      · left; rw [if_pos hc]; simp [List.lookup_cons, hx]
      · right; rw [if_neg hc]; simp [List.lookup_cons, hx]
    | false =>
      simp only [List.lookup_cons, hx] at h
      by_cases hc : (k == NameKind.free && env.scope.kind == .function && env.kindOf n == some .cell) = true
      · rw [if_pos hc]; simp only [List.lookup_cons, hx]; exact ih h
      · rw [if_neg hc]; simp only [List.lookup_cons, hx]; exact ih h
theorem mem_relabel {env : Env} {scope : Scope} (hcell : ∀ x ∈ scope.names, x.2 ≠ .cell) {x : Str} (h : (relabel scope env).names.lookup x = some .cell ∨ (relabel scope env).names.lookup x = some .free) : (x, NameKind.free) ∈ scope.names := by
  have go : ∀ k, (k = .cell ∨ k = .free) → (x, k) ∈ (relabel scope env).names → (x, NameKind.free) ∈ scope.names := by
    intro k hk hm
    unfold relabel at hm
    obtain ⟨⟨n, k0⟩, hm, e⟩ := List.mem_map.mp hm
    by_cases hc : (k0 == NameKind.free && env.scope.kind == .function && env.kindOf n == some .cell) = true
    · have e' : (n, NameKind.cell) = (x, k) := by simpa only [hc, if_true] using e
      cases e'
      have : k0 = .free := by
        simp only [Bool.and_eq_true, beq_iff_eq] at hc
        exact hc.1.1
      subst this
      exact hm
    · have e' : (n, k0) = (x, k) := by
        have e0 : (if (k0 == NameKind.free && env.scope.kind == .function && env.kindOf n == some .cell) = true then (n, NameKind.cell) else (n, k0)) = (x, k) := e
        rw [if_neg hc] at e0
        exact e0
      cases e'
      rcases hk with rfl | rfl
      · exact absurd rfl (hcell _ hm)
      · exact hm
  rcases h with h | h
  · exact go _ (.inl rfl) (PySem.mem_of_lookup h)
  · exact go _ (.inr rfl) (PySem.mem_of_lookup h)

abbrev cxCompF (X : Cx) (scope : Scope) (cl : List (Str × Addr)) (N : List Str) (C : Addr) (s₀ : Shared) (H₀ : Hp) (fp : List Addr) : Cx where
  prog := X.prog
  w := X.w
  K := X.K
  mg := X.mg
  base := X.base
  A := X.A
  N := N
  s₀ := s₀
  H₀ := H₀
  env := compEnvC scope cl C X.env
  outer := X.stack
  stack := X.stack
  ex := fp
  fn := fun _ => false
  calm := X.calm
  pn := []
  xe := fun _ _ => False
def sF (σ : List (Option V)) (js : List Nat) : List (Option V) := js.map fun j => (σ[j]?).getD none
def tCompF (wi : TI) (g : TG) (te : TE) (n : Nat) (js : List Nat) : TE := fun σ H Q => wi σ H fun J H1 => ∀ acc, H1 acc = none →
  ∃ W : Nat → Nat → Hp → Prop, (∃ m, W 0 m (upd H1 acc (.lst []))) ∧ ∀ i m H, W i m H →
    (J.stop i H ∧ Q (.ref acc) H) ∨ (J.go i H ∧ ∃ N : VK, (∀ y H3, N y H3 → ∃ xs, H3 acc = some (.lst xs) ∧ xs.length < sizeLine ∧ ∃ m', m' < m ∧ W (i + 1) m' (upd H3 acc (.lst (xs ++ [y])))) ∧
      ∀ x H', J.yld i H x H' → g x (List.replicate n none ++ sF σ js) H' fun σ2 H2 => te σ2 H2 N)

section
variable {X : Cx}
theorem comp_core {elt iter tg : Expr} {scope : Scope} {pos ps : Pos} {Nt Fv : List Str} {js : List Nat} {wi : TI} {g : TG} {te : TE} {use : Option (Value → Sem Unit)} {Q0 : Value → Shared → Prop} {Q : VK} {pins : List (Addr × Obj)} {s : Shared} {σ : List (Option V)} {H : Hp}
    (hc : X.calm = true) (hfv : ∀ x ∈ scope.names, x.2 = .free → X.env.kindOf x.1 = some .cell) (hfl : ∀ x ∈ Fv, scope.names.lookup x = some .free) (hcell : ∀ x ∈ scope.names, x.2 ≠ .cell) (hkind : scope.kind = .function)
    (hnames : ∀ x ∈ scope.names, x.2 = .local → scope.names.lookup x.1 = some .local) (hjs : Fv.map some = js.map (X.N[·]?)) (hi : PI X tg iter wi)
    (hg : ∀ cl C s₀ H₀ fp, PG (cxCompF X scope cl (Nt ++ Fv) C s₀ H₀ fp) tg g) (he : ∀ cl C s₀ H₀ fp, PE (cxCompF X scope cl (Nt ++ Fv) C s₀ H₀ fp) elt te)
    (hs : ∀ x, foldedSetIterable iter X.env x = pure x) (I : Inv X pins σ H s) (h : tCompF wi g te Nt.length js σ H Q)
    (fin : ∀ acc C s6 H5 m6, Inv X pins σ H5 s6 → Q (.ref acc) H5 → H5 C = none → C ≠ X.env.locals → X.s₀.heap.objs.size ≤ C → (∀ x c, X.env.cells.lookup x = some c → c ≠ C) → (∀ p ∈ X.pn ++ pins, p.1 ≠ C) → s6.heap.Ns C m6 →
      compPost (model X.prog X.w) X.A X.xe use Q0 (.ref acc) C (.ok .next) s6) :
    wpAny (model X.prog X.w) X.A (comprehension (.ListComp elt [⟨tg, iter, [], 0⟩] scope pos) scope X.env ps (newList []) false (eval iter X.env) use) Q0 X.xe s := by
  have hcs : ∀ x ∈ scope.names, x.2 = .free → ∃ c, X.env.cells.lookup x.1 = some c := fun x hx e => I.ok.has x.1 (.inl (hfv x hx e))
  have hlen : Fv.length = js.length := by simpa using congrArg List.length hjs
  generalize hcl : clOf X.env scope.names [] = cl
  have clSub : ∀ x c, cl.lookup x = some c → X.env.cells.lookup x = some c := by rw [← hcl]; exact clOf_sub _ _ (fun x c e => by cases e)
  have clHas : ∀ x, (x, NameKind.free) ∈ scope.names → ∃ c, cl.lookup x = some c := fun x hx => by rw [← hcl]; exact clOf_has _ _ x hx (hcs _ hx rfl)
  refine wpAny_comprehension_free (cl := cl) rfl hs (by rw [clos_ok hcs, hcl]) hkind hnames ?_
  refine thn (hi pins s σ H _ I h) fun v s1 h1 => thn h1 fun itv s2 h2 => ?_
  obtain ⟨it, fp, tn, J, H2, e, I2, T, st2, f2, hR⟩ := h2
  subst e
  refine wpAny_newObj_type (hd := by size_fits) ?_
  have hacc : H2 s2.heap.objs.size = none := I2.hok.fresh (Nat.le_refl _)
  obtain ⟨W, ⟨m0, w0⟩, turn⟩ := hR _ hacc
  have I3 : Inv X pins σ (upd H2 s2.heap.objs.size (.lst [])) { s2 with heap := s2.heap.push { cls := .type "list", dict := none, data := .seq ([] : List Value).toArray } } :=
    I2.laid (t' := s2.toks) (fun b o e => Heap.get?_push_of_some _ e) (Nat.le_refl _) ⟨Nat.zero_le _, [], 0, .nil, Heap.get?_push_size _ rfl⟩
  have st3 : tn 0 (s2.heap.push { cls := .type "list", dict := none, data := .seq ([] : List Value).toArray }) := T.keep _ _ _ st2 fun b _ o e => Heap.get?_push_of_some _ e
  have f3 : ∀ b ∈ fp, FpOk X pins (upd H2 s2.heap.objs.size (.lst [])) b := fun b hb => by
    obtain ⟨o, eo, _⟩ := T.obj _ _ st2 b hb
    refine ⟨?_, (f2 b hb).2⟩
    rw [upd_ne (Nat.ne_of_lt (Heap.lt_size eo))]
    exact (f2 b hb).1
  generalize hacc' : s2.heap.objs.size = acc at *
  generalize hs3 : ({ s2 with heap := s2.heap.push { cls := .type "list", dict := none, data := .seq ([] : List Value).toArray } } : Shared) = s3 at *
  have est3 : tn 0 s3.heap := by rw [← hs3]; exact st3
  generalize hH3 : upd H2 acc (.lst []) = H3 at *
  clear hs3 st3 hacc' I2 st2 f2 hR
  refine wpAny_newFunctionEnv hcell (by intro y hy; simp at hy) (fun h4 hns4 hsb4 => ?_) hkind
  have hlt : ∀ b o, s3.heap.get? b = some o → b ≠ s3.heap.objs.size := fun b o e => Nat.ne_of_lt (Heap.lt_size e)
  have k4 : ∀ b o, s3.heap.get? b = some o → h4.get? b = some o := fun b o e => hsb4.extBut b o (hlt b o e) (Heap.get?_push_of_some _ e)
  have ok' : (cxCompF X scope cl (Nt ++ Fv) s3.heap.objs.size s3 H3 fp).Ok :=
    { mod := I3.ok.mod
      kind := hkind
      glob := I3.ok.glob
      blt := I3.ok.blt
      above := Nat.le_refl _
      inj := fun x y c e1 e2 => I3.ok.inj x y c (clSub x c e1) (clSub y c e2)
      has := fun x hx => clHas x (mem_relabel hcell hx)
      cab := fun x c e _ => by cases e
      hd := I3.ok.hd
      frames := I3.ok.frames
      stk := .inl rfl
      exf := fun b hb => ⟨by obtain ⟨o, eo, _⟩ := T.obj _ _ est3 b hb; exact hlt b o eo, fun x c e => (f3 b hb).2.2.2.2.1 x c (clSub x c e)⟩
      bs := I3.bs
      bsz := Nat.le_trans I3.ok.bsz I3.sz
      noex := fun b o e hb => by
        rcases (f3 b hb).2.2.2.1 with z | z
        · exact I3.ok.noex b o e z
        · exact absurd (Nat.lt_of_lt_of_le (Heap.lt_size e) I3.ok.bsz) (Nat.not_lt.mpr z)
      exfs := fun b hb z => by
        have z' := I3.stkSub b z
        rcases List.mem_cons.mp z' with z' | z'
        · exact (f3 b hb).2.1 z'
        · exact (f3 b hb).2.2.1 z'
      funs := I3.stack
      frf := I3.stkFree }
  have I4 : Inv (cxCompF X scope cl (Nt ++ Fv) s3.heap.objs.size s3 H3 fp) (X.pn ++ pins) (List.replicate (Nt ++ Fv).length none) H3 { s3 with heap := h4, toks := s3.toks + ([] : List (Str × Value)).length } :=
    { ok := ok'
      os := rfl
      bare := I3.bare
      base := Un.kept k4
      loc := ⟨_, hns4, fun i x v _ h2 _ => by rw [List.getElem?_replicate] at h2; split at h2 <;> cases h2⟩
      cell := fun x c e => by obtain ⟨v, hv⟩ := I3.cell x c (clSub x c e); exact ⟨v, hv.keeps k4⟩
      free := I3.hok.fresh (Nat.le_refl _)
      freeC := fun x c e => I3.freeC x c (clSub x c e)
      pin := fun p hp => by
        have hp' : p ∈ X.pn ++ pins := by simpa using hp
        obtain ⟨p1, p2, p3, p4, p5⟩ := I3.pin p hp'
        refine ⟨k4 _ _ p1, p2, hlt _ _ p1, fun z => ?_, p5⟩
        rcases List.mem_cons.mp (I3.stkSub _ z) with z' | z'
        · exact p3 z'
        · exact p4 z'
      hok := I3.hok.kept k4
      len := List.length_replicate }
  have frv : ∀ (k : Nat) (x : Str) (v : V), Fv[k]? = some x → (sF σ js)[k]? = some (some v) → ∃ c u, RelV v u ∧ cl.lookup x = some c ∧ s3.heap.IsCell c (some u) := fun k x v e1 e2 => by
    have hx := hfl x (List.mem_of_getElem? e1)
    obtain ⟨c, ec⟩ := clHas x (PySem.mem_of_lookup hx)
    have ek : X.env.kindOf x = some .cell := hfv (x, .free) (PySem.mem_of_lookup hx) rfl
    unfold sF at e2
    rw [List.getElem?_map] at e2
    obtain ⟨j, ej, e2⟩ := Option.map_eq_some_iff.mp e2
    have e3 : σ[j]? = some (some v) := by
      cases q : σ[j]? with
      | none => rw [q] at e2; cases e2
      | some w => rw [q] at e2; exact congrArg some e2
    have e4 : X.N[j]? = some x := by
      have q := congrArg (fun l => l[k]?) hjs
      simp only [List.getElem?_map, e1, ej, Option.map_some, Option.some.injEq] at q
      exact q.symm
    obtain ⟨m, hn, hl⟩ := I3.loc
    obtain ⟨u, r, l⟩ := hl j x v e4 e3 (.inr (.inl ek))
    rcases l with ⟨k1, _⟩ | ⟨_, c', ec', hcu⟩
    · rw [ek] at k1; cases k1
    · have q := clSub x c ec
      rw [ec'] at q
      cases q
      exact ⟨c, u, r, ec, hcu⟩
  have again : ∀ {P : List (Addr × Obj)} {σ' : List (Option V)} {H' : Hp} {s' : Shared}, Inv (cxCompF X scope cl (Nt ++ Fv) s3.heap.objs.size s3 H3 fp) P σ' H' s' → Inv (cxCompF X scope cl (Nt ++ Fv) s3.heap.objs.size s3 H3 fp) P (List.replicate Nt.length none ++ sF σ js) H' s' := fun {P σ' H' s'} I' => by
    refine ⟨I'.ok, I'.os, I'.bare, I'.base, ?_, I'.cell, I'.free, I'.freeC, I'.pin, I'.hok, by simp [sF, hlen]⟩
    obtain ⟨m, hn, _⟩ := I'.loc
    refine ⟨m, hn, fun i x v e1 e2 e3 => ?_⟩
    have e1 : (Nt ++ Fv)[i]? = some x := e1
    by_cases hi' : i < Nt.length
    · rw [List.getElem?_append_left (by simpa using hi'), List.getElem?_replicate] at e2
      split at e2 <;> cases e2
    · have hle : Nt.length ≤ i := Nat.le_of_not_lt hi'
      rw [List.getElem?_append_right hle] at e1
      rw [List.getElem?_append_right (by simpa using hle), List.length_replicate] at e2
      obtain ⟨c, u, r, ec, o, ho, hd⟩ := frv _ x v e1 e2
      refine ⟨u, r, .inr ⟨lookup_relabel_free (hfl x (List.mem_of_getElem? e1)), c, ec, ?_⟩⟩
      have nf : c ∉ fp := fun z => (f3 c z).2.2.2.2.1 x c (clSub x c ec) rfl
      by_cases hcf : c ∈ frs X.stack
      · obtain ⟨sl, q⟩ := I'.base.slot c o ho (I3.freeC x c (clSub x c ec)) hcf nf
        exact ⟨_, q, hd⟩
      · exact ⟨o, I'.base.keep c o ho (I3.freeC x c (clSub x c ec)) hcf nf, hd⟩
  have st4 : tn 0 h4 := T.keep _ _ _ est3 fun b _ o e => k4 b o e
  have fpn : ∀ b ∈ fp, H3 b = none := fun b hb => (f3 b hb).1
  have stat : ∀ {H' : Hp}, (∀ b ∈ fp, H' b = none) → ∀ b ∈ fp, FpOk (cxCompF X scope cl (Nt ++ Fv) s3.heap.objs.size s3 H3 fp) (X.pn ++ pins) H' b := fun hn b hb => by
    refine ⟨hn b hb, (ok'.exf b hb).1, ok'.exfs b hb, .inl hb, (ok'.exf b hb).2, fun p hp => ?_⟩
    have hp' : p ∈ X.pn ++ pins := by simpa using hp
    exact (f3 b hb).2.2.2.2.2 p hp'
  have loop : ∀ it' : Value, it' = .ref it → codeAny (model X.prog X.w) X.A (.compLoop (.ListComp elt [⟨tg, iter, [], 0⟩] scope pos) 0 it' (.ref acc) (compEnvC scope cl s3.heap.objs.size X.env))
      (compPost (model X.prog X.w) X.A X.xe use Q0 (.ref acc) s3.heap.objs.size)
      { s3 with heap := h4, toks := s3.toks + ([] : List (Str × Value)).length } := by
    rintro it' rfl
    refine comp_loop (fun n s' => ∃ i σ' H', Inv (cxCompF X scope cl (Nt ++ Fv) s3.heap.objs.size s3 H3 fp) (X.pn ++ pins) σ' H' s' ∧ tn i s'.heap ∧ (∀ b ∈ fp, H' b = none) ∧ W i n H') ?_ m0 ⟨0, _, H3, I4, st4, fpn, w0⟩
    rintro n s5 ⟨i, σ5, H5, I5, st5, fr5, w5⟩
    rcases turn i n H5 w5 with ⟨stop, qn⟩ | ⟨go, Nx, hN, step⟩
    · refine wpAny_mono (T.done (cxCompF X scope cl (Nt ++ Fv) s3.heap.objs.size s3 H3 fp) rfl rfl rfl hc i (X.pn ++ pins) s5 σ5 H5 (fun _ _ => False) I5 (stat fr5) st5 stop) (fun r s6 ⟨hr, I6⟩ => ?_) fun _ _ e => e.elim
      subst hr
      obtain ⟨m6, hn6, _⟩ := I6.loc
      have J6 : Inv X pins σ H5 s6 := I3.call' (ch := fp) I6.os I6.base I6.hok I6.bare fun b hb => ⟨(f3 b hb).2.2.2.1, (f3 b hb).2.1, (f3 b hb).2.2.2.2.1, (f3 b hb).2.2.2.2.2⟩
      exact fin acc _ s6 H5 m6 J6 qn I6.free (Nat.ne_of_gt I3.lt) I3.sz (fun x c e => by obtain ⟨v, o, eo, _⟩ := I3.cell x c e; exact hlt c o eo) (fun p hp => hlt _ _ (I3.pin p hp).1) hn6
    · refine wpAny_mono (T.item (cxCompF X scope cl (Nt ++ Fv) s3.heap.objs.size s3 H3 fp) rfl rfl rfl hc i (X.pn ++ pins) s5 σ5 H5 (fun _ _ => False) I5 (stat fr5) st5 go) (fun r s6 ⟨u, hr, h6⟩ => ?_) fun _ _ e => e.elim
      subst hr
      refine wpAny_mono h6 (fun _ s7 ⟨x, H7, I7, r7, y7, st7, fr7⟩ => ?_) fun _ _ e => e.elim
      have I7' : Inv (cxCompF X scope cl (Nt ++ Fv) s3.heap.objs.size s3 H3 fp) ((X.pn ++ pins) ++ pinsAt fp s7.heap) (List.replicate Nt.length none ++ sF σ js) H7 s7 :=
        again (I7.pinned (stat fr7) (T.obj _ _ st7))
      refine wpAny_mono (hg _ _ _ _ _ _ s7 _ H7 x u _ I7' r7 (step x H7 y7)) (fun _ s8 ⟨σ8, H8, I8, q8⟩ => ?_) fun _ _ e => e.elim
      refine wpAny_mono (he _ _ _ _ _ _ s8 σ8 H8 _ I8 q8) (fun ux s9 ⟨y, H9, I9, r9, n9⟩ => ?_) fun _ _ e => e.elim
      obtain ⟨xs, ha, hl, m', hm, w9⟩ := hN y H9 n9
      refine wpAny_mono (mt_append (X := cxCompF X scope cl (Nt ++ Fv) s3.heap.objs.size s3 H3 fp) _ s9 σ8 H9 (.ref acc) [y] (.ref acc) [ux] (fun _ H10 => W (i + 1) m' H10) I9 rfl (.cons r9 .nil) ⟨acc, xs, y, rfl, rfl, ha, hl, w9⟩) (fun _ s10 ⟨_, H10, I10, _, q10⟩ => ?_) fun _ _ e => e.elim
      refine ⟨m', hm, i + 1, σ8, H10, I10.unpinned, T.keep _ _ _ st7 fun b hb o e => (I10.pin (b, o) (List.mem_append_right _ (List.mem_append_right _ (mem_pinsAt hb e)))).1, fun b hb => ?_, q10⟩
      obtain ⟨o, e, d⟩ := T.obj _ _ st7 b hb
      exact (I10.pin (b, o) (List.mem_append_right _ (List.mem_append_right _ (mem_pinsAt hb e)))).2.1
  exact codeAny_compStart_list (loop _ rfl) (T.self _ _ _ _ _ st4 (loop _ rfl))

theorem fv_of {scope : Scope} (h : (scope.names.all fun x => x.2 != .free || X.env.kindOf x.1 == some .cell) = true) : ∀ x ∈ scope.names, x.2 = .free → X.env.kindOf x.1 = some .cell := fun x hx e => by
  have q := List.all_eq_true.mp h x hx
  rw [e] at q
  simpa using q
theorem ps_setCompF {i : Nat} {y : Str} {py spos : Pos} {elt iter tg : Expr} {scope : Scope} {pos : Pos} {Nt : List Str} (Fv : List Str) (js : List Nat) {wi : TI} {g : TG} {te : TE}
    (hN : X.N.Nodup) (hi' : X.N[i]? = some y) (hy : X.env.scope.names.lookup y = some .local)
    (hc : X.calm = true) (hfv : (scope.names.all fun x => x.2 != .free || X.env.kindOf x.1 == some .cell) = true) (hfl : ∀ x ∈ Fv, scope.names.lookup x = some .free) (hcell : ∀ x ∈ scope.names, x.2 ≠ .cell) (hkind : scope.kind = .function)
    (hnames : ∀ x ∈ scope.names, x.2 = .local → scope.names.lookup x.1 = some .local) (hjs : Fv.map some = js.map (X.N[·]?)) (hi : PI X tg iter wi)
    (hg : ∀ cl C s₀ H₀ fp, PG (cxCompF X scope cl (Nt ++ Fv) C s₀ H₀ fp) tg g) (he : ∀ cl C s₀ H₀ fp, PE (cxCompF X scope cl (Nt ++ Fv) C s₀ H₀ fp) elt te)
    (hsw : swapsWith (.ListComp elt [⟨tg, iter, [], 0⟩] scope pos) (some (.Name y py)) spos.line X.env = pure true := by rfl)
    (hs : ∀ x, foldedSetIterable iter X.env x = pure x := by intro _; rfl) : PS X (.Assign [.Name y py] (.ListComp elt [⟨tg, iter, [], 0⟩] scope pos) spos) (tAsg (tCompF wi g te Nt.length js) (gName i)) := by
  intro pins s σ H D I h
  rw [exec_Assign_Name_used _ _ _ _ hsw]
  refine wpAny_bind (wpAny_standAt (wpAny_bind ?_))
  show wpAny _ X.A (do let _ ← comprehension (.ListComp elt [⟨tg, iter, [], 0⟩] scope pos) scope X.env _ (newList []) false (eval iter X.env) (some (assign (.Name y py) X.env))) _ _ s
  refine wpAny_bind (wpAny_mono (Q := fun _ s' => SP X pins D .next s') ?_ (fun _ s' hq => wpAny_pure (wpAny_pure hq)) fun _ _ e => e)
  refine comp_core (Q := _) hc (fv_of hfv) hfl hcell hkind hnames hjs hi hg he hs I h ?_
  intro acc C s6 H5 m6 J6 qn hf hL h1 h2 h3 hn6
  show wpAny _ X.A (assign (.Name y py) X.env (.ref acc)) _ _ s6
  refine wpAny_assign_Name (store_ok2 J6 hN hi' (.inl hy) (v := .ref acc) rfl (fun s7 I7 ⟨a, sa, ha⟩ => ?_) (.inr hy))
  have na : C ≠ a := by
    rcases ha with e | e
    · rw [e]; exact hL
    · exact fun z => h2 y a e z.symm
  refine ⟨m6, hn6.sameBut sa na, fun h8 sb8 => ?_⟩
  have J8 : Inv X pins (σ.set i (some (.ref acc))) H5 { s7 with heap := h8, toks := s7.toks } := I7.turned (it := C) (fun b o hb e => (sb8.2 b hb).trans e) hf hL (.inr h1) h2 h3
  exact ⟨_, H5, J8, qn⟩
theorem comp_listF {K : PySem.W.Frag} {a : Addr} {xs : List V} {g : TG} {te : TE} {σ0 : List (Option V)} {Q : VK} {H1 : Hp} {acc : Addr} (Pv : Nat → Hp → Prop) (h0 : Pv 0 (upd H1 acc (.lst []))) (hl : ∀ i H, i ≤ xs.length → Pv i H → SqL K H a xs)
    (hs : ∀ i x H, xs[i]? = some x → Pv i H → g x σ0 H fun σ2 H2 => te σ2 H2 fun y H3 => ∃ zs, H3 acc = some (.lst zs) ∧ zs.length < sizeLine ∧ Pv (i + 1) (upd H3 acc (.lst (zs ++ [y])))) (hd : ∀ H, Pv xs.length H → Q (.ref acc) H) :
    ∃ W : Nat → Nat → Hp → Prop, (∃ m, W 0 m (upd H1 acc (.lst []))) ∧ ∀ i m H, W i m H →
      ((Itl K a).stop i H ∧ Q (.ref acc) H) ∨ ((Itl K a).go i H ∧ ∃ N : VK, (∀ y H3, N y H3 → ∃ zs, H3 acc = some (.lst zs) ∧ zs.length < sizeLine ∧ ∃ m', m' < m ∧ W (i + 1) m' (upd H3 acc (.lst (zs ++ [y])))) ∧
        ∀ x H', (Itl K a).yld i H x H' → g x σ0 H' fun σ2 H2 => te σ2 H2 N) := by
  refine ⟨fun i m H => m = xs.length - i ∧ i ≤ xs.length ∧ Pv i H, ⟨xs.length, by simp, Nat.zero_le _, h0⟩, ?_⟩
  rintro i m H ⟨rfl, hi, p⟩
  have q := hl i H hi p
  by_cases hlt : i < xs.length
  · refine .inr ⟨⟨xs, xs[i], q, by simp [hlt]⟩, fun y H3 => ∃ zs, H3 acc = some (.lst zs) ∧ zs.length < sizeLine ∧ Pv (i + 1) (upd H3 acc (.lst (zs ++ [y]))), fun y H3 ⟨zs, z1, z2, z3⟩ => ⟨zs, z1, z2, xs.length - (i + 1), by omega, rfl, hlt, z3⟩, fun x H' y => ?_⟩
    obtain ⟨e, y⟩ := y
    subst e
    exact hs i x _ (y xs q) p
  · have e : i = xs.length := by omega
    subst e
    exact .inl ⟨⟨xs, q, Nat.le_refl _⟩, hd H p⟩
theorem call_len_seqK {K : PySem.W.Frag} (h : X.K = K) : CallR X (.builtin "len") (fun xs H Q => ∃ p ys, xs = [.ref p] ∧ (SqL K H p ys ∨ SqT K H p ys) ∧ Q (.int ys.length) H) := by subst h; exact call_len_seq
theorem ix_listK {K : PySem.W.Frag} (h : X.K = K) : IxR X (rIxL K) := by subst h; exact ix_list
theorem st_teop {r : R2} {ta tb : TE} {i : Nat} {σ : St} {H : Hp} {D : Ends} (h : ta σ H fun x H1 => tb σ H1 fun y H2 => r x y H2 fun z H3 => gName i z σ H3 D.nx) : tAsg (tOp r ta tb) (gName i) D σ H := h
end
end L2
namespace L2
open PySem PySem.Spec PyProof.Rows
theorem pe_globE {X : Cx} {x : Str} {v : V} {pos : Pos} (hg : Gl X x) (h : ∃ u, X.mg x = some u ∧ RelV v u) (hd : (x == ("__debug__" : Str)) = false := by decide) : PE X (.Name x pos) (tC v) := by
  obtain ⟨u, hm, r⟩ := h
  exact pe_glob hg hm r hd
theorem TupsAt.upd {H : Hp} {as : List Addr} {c : List Mth.Ch} {l : Addr} {xs : List V} {o : HO} (h : TupsAt H as c) (hl : H l = some (.lst xs)) : TupsAt (upd H l o) as c := Paired.mapP h fun a t z => by
  rw [upd_ne (fun e => by rw [e, hl] at z; cases z)]; exact z
section
variable {σ : St} {H : Hp} {D : Ends}
end
end L2
namespace L2
open PySem PySem.Spec PyProof.Rows
section
variable {X : Cx}
end
section
variable {σ : St} {H : Hp} {D : Ends} {K : PySem.W.Frag}
theorem st_ifQ {tc : TT} {t u : TS} (h : tc σ H fun b H1 => if b = true then t D σ H1 else u D σ H1) : tIfS tc t u D σ H := h
theorem pt_isN {ta : TE} {a : Addr} (ha : PuE ta σ H (.ref a)) : PuT (tTest (tOp (fun x y H Q => y = .non ∧ Q (.bl (decide (x = .non))) H) ta (tC .non))) σ H false := fun Q q => ha _ ⟨rfl, _, rfl, by rw [decide_eq_false (fun h => by cases h)]; exact q⟩
end
theorem ChL.but {H H' : Hp} {r l : Addr} {c : List Mth.Ch} {xs : List V} (h : ChL H r c) (b : But l H H') (hl : H l = some (.lst xs)) (n : r ≠ l) : ChL H' r c := by
  obtain ⟨as, e, p⟩ := h
  exact ⟨as, b _ _ n e, Paired.mapP p fun a t z => b _ _ (fun q => by rw [q, hl] at z; cases z) z⟩
end L2
namespace L2
open PySem PySem.Spec PyProof.Rows
section
variable {X : Cx} {es : List Expr} {k : Nat} {tpos : Pos}
end
theorem call_isinEK {X : Cx} {K : PySem.W.Frag} (h : X.K = K) : CallR X (.builtin "isinstance") (fun xs H Q => ∃ e C c b, xs = [.ref e, c] ∧ H e = some (excO e (.ref C)) ∧ Exi K C ∧ (∃ u, RelV c u ∧ (∀ u', RelV c u' → u' = u) ∧ PySem.W.kitOne K (.ref C) u = some b) ∧ Q (.bl b) H) := by
  subst h; exact call_isinE
theorem rel_ref {a : Addr} {u : Value} (h : RelV (.ref a) u) : u = .ref a := h
theorem rel_ty {n : String} {u : Value} (h : RelV (.ty n) u) : u = .type n := h
def dB (bs : List Bool) : PyData := .list (bs.map PyData.bool)
theorem eqvAll_bools : ∀ ns ms : List Bool, PyData.eqvAll (ns.map PyData.bool) (ms.map PyData.bool) = decide (ns = ms)
  | [], [] => by simp [PyData.eqvAll]
  | [], _ :: _ => by simp [PyData.eqvAll]
  | _ :: _, [] => by simp [PyData.eqvAll]
  | a :: r, b :: q => by
    simp only [List.map_cons, PyData.eqvAll, eqvAll_bools r q]
    cases a <;> cases b <;> simp [PyData.eqv]
theorem eqv_dB (a b : List Bool) : PyData.eqv (dB a) (dB b) = decide (a = b) := by unfold dB; rw [PyData.eqv]; exact eqvAll_bools a b
theorem lay_bools : ∀ bs : List Bool, PyData.canLayAll0 (bs.map PyData.bool) = true ∧ PyData.depthAll (bs.map PyData.bool) ≤ 1
  | [] => ⟨rfl, by simp [PyData.depthAll]⟩
  | b :: r => by
    obtain ⟨h1, h2⟩ := lay_bools r
    refine ⟨by simp [PyData.canLayAll0, PyData.canLay0, h1], ?_⟩
    simp only [List.map_cons, PyData.depthAll, PyData.depth]
    omega
theorem shaped_dB (bs : List Bool) : SeqAt.shaped (dB bs) = true := shaped_of (by unfold dB; simp only [PyData.canLay0]; exact (lay_bools bs).1) (by unfold dB; simp only [PyData.depth]; have := (lay_bools bs).2; omega)
theorem datA_bools (K : PySem.W.Frag) (H : Hp) : ∀ bs : List Bool, DatA K H (bs.map V.bl) (bs.map PyData.bool)
  | [] => .nil
  | b :: r => .cons (.bl b) (datA_bools K H r)
theorem datR_B {K : PySem.W.Frag} {H : Hp} {a : Addr} {bs : List Bool} (h : SqL K H a (bs.map V.bl)) : DatR K H (.ref a) (dB bs) := .lst h (datA_bools K H bs)
section
variable {K : PySem.W.Frag} {σ : St} {H : Hp}
theorem pu_isE {i : Nat} {e C D : Addr} {b : Bool} (hσ : σ[i]? = some (some (.ref e))) (he : H e = some (excO e (.ref C))) (x : Exi K C) (k : PySem.W.kitOne K (.ref C) (.ref D) = some b) :
    PuE (tCB (fun xs H Q => ∃ e C c b, xs = [.ref e, c] ∧ H e = some (excO e (.ref C)) ∧ Exi K C ∧ (∃ u, RelV c u ∧ (∀ u', RelV c u' → u' = u) ∧ PySem.W.kitOne K (.ref C) u = some b) ∧ Q (.bl b) H) (tCons (tVar i) (tCons (tC (.ref D)) tNil))) σ H (.bl b) :=
  fun Q q => ⟨_, hσ, e, C, _, b, rfl, he, x, ⟨_, rfl, fun u h => rel_ref h, k⟩, q⟩
theorem pu_isT {i : Nat} {e C : Addr} {n : String} {b : Bool} (hσ : σ[i]? = some (some (.ref e))) (he : H e = some (excO e (.ref C))) (x : Exi K C) (k : PySem.W.kitOne K (.ref C) (.type n) = some b) :
    PuE (tCB (fun xs H Q => ∃ e C c b, xs = [.ref e, c] ∧ H e = some (excO e (.ref C)) ∧ Exi K C ∧ (∃ u, RelV c u ∧ (∀ u', RelV c u' → u' = u) ∧ PySem.W.kitOne K (.ref C) u = some b) ∧ Q (.bl b) H) (tCons (tVar i) (tCons (tC (.ty n)) tNil))) σ H (.bl b) :=
  fun Q q => ⟨_, hσ, e, C, _, b, rfl, he, x, ⟨_, rfl, fun u h => rel_ty h, k⟩, q⟩
end
section
variable {X : Cx}
end
theorem swaps_lst {ls : List Expr} {p : Pos} {tg : Option Expr} {n : Nat} {env : Env} : swapsWith (.List ls p) tg n env = pure false := by rfl
theorem ps_setL {X : Cx} {pos : Pos} {i : Nat} {x : Str} {ls : List Expr} {p : Pos} {te : TE} {pos' : Pos} (hN : X.N.Nodup) (hi : X.N[i]? = some x) (hx : Loc X.env.scope x) (he : PE X (.List ls p) te)
    (hf : X.fn x = true ∨ X.env.scope.names.lookup x = some .local := by first | exact .inl rfl | exact .inr rfl | assumption) : PS X (.Assign [.Name x pos'] (.List ls p) pos) (tAsg te (gName i)) := ps_set hN hi hx he swaps_lst hf
@[irreducible] def PSi (X : Cx) (st : Stmt) (t : TS) : Prop := PS X st t
@[irreducible] def PEi (X : Cx) (e : Expr) (t : TE) : Prop := PE X e t
theorem psi {X : Cx} {st : Stmt} {t : TS} (h : PS X st t) : PSi X st t := by unfold PSi; exact h
theorem psi_un {X : Cx} {st : Stmt} {t : TS} (h : PSi X st t) : PS X st t := by unfold PSi at h; exact h
theorem pei {X : Cx} {e : Expr} {t : TE} (h : PE X e t) : PEi X e t := by unfold PEi; exact h
theorem pei_un {X : Cx} {e : Expr} {t : TE} (h : PEi X e t) : PE X e t := by unfold PEi at h; exact h
theorem ps_setI {X : Cx} {pos : Pos} {i : Nat} {x : Str} {ls : List Expr} {p : Pos} {te : TE} {pos' : Pos} (hN : X.N.Nodup) (hi : X.N[i]? = some x) (hx : Loc X.env.scope x) (he : PEi X (.List ls p) te)
    (hf : X.fn x = true ∨ X.env.scope.names.lookup x = some .local := by first | exact .inl rfl | exact .inr rfl | assumption) : PSi X (.Assign [.Name x pos'] (.List ls p) pos) (tAsg te (gName i)) := psi (ps_setL hN hi hx (pei_un he) hf)
theorem passN {P : Program} {w : World} {X : Cx} : Passes (CX1 P w) X E0 := by
  rintro pins σ H s e s' _ ⟨ea, cls, H', _, _, h⟩
  exact h.elim
end L2
namespace PySem
namespace F
theorem owner_rev : Manifest.owners.lookup (String.ofList ['d', 'e', 's', 'r', 'e', 'v', 'e', 'r'].reverse) = some Manifest.sig_reversed := by kernel_rfl
theorem slot_rev_next : Slot "reversed" "__next__" "reversed.__next__" :=
  .of (owner := "reversed") (n := "__next__") (by rw [typeLookup_type, builtinLookup_eq_fast]; kernel_rfl) (by decide +kernel) (by decide +kernel) (by decide +kernel)
    (by first | exact .inl (by decide +kernel) | exact .inr (by decide +kernel)) (by rw [isSubtype_type]; kernel_rfl)
theorem entry_rev_next : entryFor table "reversed.__next__" = some Builtin.«reversed.__next__» := entryFor_of_tree (by kernel_rfl)
theorem args_rev_next_1 (a : Value) : argsOk "reversed.__next__" ⟨[a], []⟩ := by
  unfold argsOk; rw [signature?_of (id := "reversed.__next__") (n := ['_', '_', 't', 'x', 'e', 'n', '_', '_']) (o := ['d', 'e', 's', 'r', 'e', 'v', 'e', 'r']) (by kernel_rfl) owner_rev]; kernel_rfl
theorem slot_rev_iter : Slot "reversed" "__iter__" "reversed.__iter__" :=
  .of (owner := "reversed") (n := "__iter__") (by rw [typeLookup_type, builtinLookup_eq_fast]; kernel_rfl) (by decide +kernel) (by decide +kernel) (by decide +kernel)
    (by first | exact .inl (by decide +kernel) | exact .inr (by decide +kernel)) (by rw [isSubtype_type]; kernel_rfl)
theorem args_rev_iter_1 (a : Value) : argsOk "reversed.__iter__" ⟨[a], []⟩ := by
  unfold argsOk; rw [signature?_of (id := "reversed.__iter__") (n := ['_', '_', 'r', 'e', 't', 'i', '_', '_']) (o := ['d', 'e', 's', 'r', 'e', 'v', 'e', 'r']) (by kernel_rfl) owner_rev]; kernel_rfl
theorem entry_rev_iter : entryFor table "reversed.__iter__" = some Builtin.«dict_keyiterator.__iter__» :=
  entryFor_alias (id' := "dict_keyiterator.__iter__") (by kernel_rfl) (by first | rfl | decide +kernel | (unfold String.splitOn; simp +decide [String.splitOnAux])) (by decide +kernel) (by kernel_rfl)
theorem slot_rev_init : Slot "reversed" "__init__" "object.__init__" :=
  .of (owner := "object") (n := "__init__") (by rw [typeLookup_type, builtinLookup_eq_fast]; kernel_rfl) (by decide +kernel) (by decide +kernel) (by decide +kernel)
    (by first | exact .inl (by decide +kernel) | exact .inr (by decide +kernel)) (by rw [isSubtype_type]; kernel_rfl)
theorem called_rev : TypeCalled "reversed" "reversed.__new__" "object.__init__" :=
  ⟨by decide +kernel, create_reversed, ⟨_, _, mro_reversed⟩, made_reversed, plain_reversed_new, sub_reversed_self, slot_rev_init⟩
theorem no_rev_str : typeLookup (.type "str") "__reversed__" = pure none := by rw [typeLookup_type, builtinLookup_eq_fast]; kernel_rfl
theorem sub_strDict : isSubtype (.type "str") (.type "dict") = pure false := by rw [isSubtype_type]; kernel_rfl
end F
end PySem
namespace L2
open PySem PySem.Spec PyProof.Rows
def tx (cs : List Nat) : Str := ⟨⟨cs⟩⟩
def ItS (cs : List Nat) : It := ⟨fun i _ => i < cs.length, fun i H v H' => H' = H ∧ ∃ c, cs[i]? = some c ∧ v = .str (tx [c]), fun i _ => i = cs.length⟩
theorem turn_asc {P : Program} {w : World} {K : PySem.W.Frag} {tg : Expr} (it : Addr) (x : Str) (t : Tok) : Turn P w K tg (ItS x.cps.toList) [it] it (fun i h => h.IsStrIter it "str_ascii_iterator" x t i) where
  mem := by simp
  obj := fun i h st b hb => by
    have e : b = it := by simpa using hb
    subst e
    obtain ⟨o, e, c, d⟩ := st
    exact ⟨o, e, fun v z => by rw [d] at z; cases z⟩
  keep := fun i h h' st k => let ⟨o, ho, r⟩ := st; ⟨o, k it (by simp) o ho, r⟩
  item := by
    intro X hP hw hK hc i pins s σ H E I hf st hg
    subst hP hw hK
    have hi : i < x.cps.size := hg
    have hi2 : i < x.cps.toList.length := hg
    obtain ⟨f0, f1, f2, f3, f4, f5⟩ := hf it (by simp)
    refine wpAny_pyNext_ascii_item st (c := x.cps[i]) (by simp [hi]) fun h' st' sb => ?_
    have I1 : Inv X pins σ H { s with heap := h', toks := s.toks + 1 } := I.turned (t' := s.toks + 1) (fun b o hb e => (sb.2 b hb).trans e) f0 f1 f3 f4 f5
    obtain ⟨o, e, c, d⟩ := id st'
    exact ⟨_, rfl, go_of (s := { s with heap := h', toks := s.toks + 1 }) e c d (by decide) ⟨.str (tx [x.cps[i]]), H, I1, ⟨_, rfl⟩, ⟨rfl, x.cps[i], by rw [List.getElem?_eq_getElem hi2]; rfl, rfl⟩, st', fun b hb => (hf b hb).1⟩⟩
  done := by
    intro X hP hw hK hc i pins s σ H E I hf st hg
    subst hP hw hK
    have hg' : i = x.cps.size := hg
    obtain ⟨f0, f1, f2, f3, f4, f5⟩ := hf it (by simp)
    exact wpAny_pyNext_ascii_end (I.ok.hd hc) st (by simp [hg']) fun h' eb => ⟨rfl, I.turned (t' := s.toks) (fun b o hb e => eb b o hb e) f0 f1 f3 f4 f5⟩
  self := fun _ _ _ _ _ st h => wpAny_pyIter_striter_ascii st h
theorem turn_wide {P : Program} {w : World} {K : PySem.W.Frag} {tg : Expr} (it : Addr) (x : Str) (t : Tok) : Turn P w K tg (ItS x.cps.toList) [it] it (fun i h => h.IsStrIter it "str_iterator" x t i) where
  mem := by simp
  obj := fun i h st b hb => by
    have e : b = it := by simpa using hb
    subst e
    obtain ⟨o, e, c, d⟩ := st
    exact ⟨o, e, fun v z => by rw [d] at z; cases z⟩
  keep := fun i h h' st k => let ⟨o, ho, r⟩ := st; ⟨o, k it (by simp) o ho, r⟩
  item := by
    intro X hP hw hK hc i pins s σ H E I hf st hg
    subst hP hw hK
    have hi : i < x.cps.size := hg
    have hi2 : i < x.cps.toList.length := hg
    obtain ⟨f0, f1, f2, f3, f4, f5⟩ := hf it (by simp)
    refine wpAny_pyNext_wide_item st (c := x.cps[i]) (by simp [hi]) fun h' st' sb => ?_
    have I1 : Inv X pins σ H { s with heap := h', toks := s.toks + 1 } := I.turned (t' := s.toks + 1) (fun b o hb e => (sb.2 b hb).trans e) f0 f1 f3 f4 f5
    obtain ⟨o, e, c, d⟩ := id st'
    exact ⟨_, rfl, go_of (s := { s with heap := h', toks := s.toks + 1 }) e c d (by decide) ⟨.str (tx [x.cps[i]]), H, I1, ⟨_, rfl⟩, ⟨rfl, x.cps[i], by rw [List.getElem?_eq_getElem hi2]; rfl, rfl⟩, st', fun b hb => (hf b hb).1⟩⟩
  done := by
    intro X hP hw hK hc i pins s σ H E I hf st hg
    subst hP hw hK
    have hg' : i = x.cps.size := hg
    obtain ⟨f0, f1, f2, f3, f4, f5⟩ := hf it (by simp)
    exact wpAny_pyNext_wide_end (I.ok.hd hc) st (by simp [hg']) fun h' eb => ⟨rfl, I.turned (t' := s.toks) (fun b o hb e => eb b o hb e) f0 f1 f3 f4 f5⟩
  self := fun _ _ _ _ _ st h => wpAny_pyIter_striter_wide st h
def iStr (tl : TE) : TI := fun σ H R => tl σ H fun x H1 => ∃ y, x = .str y ∧ R (ItS y.cps.toList) H1
section
variable {X : Cx} {tg : Expr}
theorem pi_str {l : Expr} {tl : TE} (hl : PE X l tl) : PI X tg l (iStr tl) := by
  intro pins s σ H R I h
  refine thn (hl pins s σ H _ I h) fun v s1 ⟨x, H1, I1, r1, y, e, q⟩ => ?_
  subst e
  obtain ⟨t, rfl⟩ := r1
  have fp : ∀ b ∈ [s1.heap.objs.size], FpOk X pins H1 b := fun b hb => by
    have e : b = s1.heap.objs.size := by simpa using hb
    subst e
    exact I1.fpOk (Nat.le_refl _) (I1.hok.fresh (Nat.le_refl _))
  cases ha : y.cps.all (· < 128)
  · refine wpAny_pyIter_wide ha ?_
    exact ⟨s1.heap.objs.size, [s1.heap.objs.size], _, _, H1, rfl, I1.kept (t' := s1.toks) fun b o e => Heap.get?_push_of_some _ e, turn_wide _ y t, ⟨_, Heap.get?_push_size _ rfl, rfl, rfl⟩, fp, q⟩
  · refine wpAny_pyIter_ascii ha ?_
    exact ⟨s1.heap.objs.size, [s1.heap.objs.size], _, _, H1, rfl, I1.kept (t' := s1.toks) fun b o e => Heap.get?_push_of_some _ e, turn_asc _ y t, ⟨_, Heap.get?_push_size _ rfl, rfl, rfl⟩, fp, q⟩
end
theorem for_sg {cs : List Nat} {g : TG} {tb : TS} {D : Ends} {σ : St} {H : Hp} (Pv : Nat → St → Hp → Prop) (h0 : Pv 0 σ H)
    (hs : ∀ i c σ H, cs[i]? = some c → Pv i σ H → g (.str (tx [c])) σ H fun σ2 H2 => tb { D with nx := Pv (i + 1), ct := Pv (i + 1), bk := D.nx } σ2 H2) (hd : ∀ σ H, Pv cs.length σ H → D.nx σ H) :
    ∃ W : Nat → Nat → St → Hp → Prop, (∃ m, W 0 m σ H) ∧ ∀ i m σ H, W i m σ H →
      ((ItS cs).stop i H ∧ D.nx σ H) ∨ ((ItS cs).go i H ∧ ∃ N : St → Hp → Prop, (∀ σ' H', N σ' H' → ∃ m', m' < m ∧ W (i + 1) m' σ' H') ∧ ∀ v H', (ItS cs).yld i H v H' → g v σ H' fun σ2 H2 => tb { D with nx := N, ct := N, bk := D.nx } σ2 H2) := by
  refine ⟨fun i m σ H => i ≤ cs.length ∧ m = cs.length - i ∧ Pv i σ H, ⟨_, Nat.zero_le _, rfl, h0⟩, fun i m σ H ⟨hi, hm, hp⟩ => ?_⟩
  by_cases e : i = cs.length
  · refine .inl ⟨e, hd σ H ?_⟩
    rw [← e]
    exact hp
  · have hlt : i < cs.length := by omega
    refine .inr ⟨hlt, Pv (i + 1), fun σ' H' q => ⟨cs.length - (i + 1), by omega, by omega, rfl, q⟩, fun v H' hy => ?_⟩
    obtain ⟨rfl, c, hc, rfl⟩ := hy
    exact hs i c σ H' hc hp
def IsRevStr (h : Heap) (a : Addr) (x : Str) (t : Tok) (i : Int) : Prop := ∃ o, h.get? a = some o ∧ o.cls = .type "reversed" ∧ o.data = .fields #[.str x t, rawInt i]
theorem IsRevStr.typeIs {s : Shared} {a : Addr} {x : Str} {t : Tok} {i : Int} (y : IsRevStr s.heap a x t i) : s.TypeIs (.ref a) "reversed" := let ⟨o, ho, hc, _⟩ := y; ⟨o, ho, hc⟩
section
variable {prog : Program} {w : World} {A : Around} {E : Value → Shared → Prop} {s : Shared} {x : Str} {t : Tok}
theorem meets_rev_new (x : Str) (t : Tok) (hz : x.length ≤ sizeLine) :
    Meets (Builtin.«reversed.__new__» ⟨[.type "reversed", .str x t], []⟩) (fun _ R s => ∀ k,
      R (.ok (.ret (.ref s.heap.objs.size))) { s with heap := s.heap.push { cls := .type "reversed", data := .fields #[.str x t, rawInt ((x.length : Int) - 1)] }, toks := k }) :=
  .of_wp fun prog w A R s h => by
    unfold Builtin.«reversed.__new__»
    refine wpAny_bind (wpAny_of_eq (newClass_reversed _) ?_)
    try dsimp only
    refine wpAny_bind (wpAny_of_eq (a := ()) (by first | rfl | kernel_rfl) ?_)
    refine wpAny_bind (wpAny_of_eq (a := ()) (by first | rfl | kernel_rfl) ?_)
    try dsimp only
    refine wpAny_bind (wpAny_specialOf (typeIs_str s x t) F.no_rev_str ?_)
    try dsimp only
    refine wpAny_bind ?_
    refine wpAny_bind (wpAny_isInstance (typeIs_str s x t) F.sub_strDict ?_)
    try dsimp only
    refine wpAny_bind (wpAny_specialOf (typeIs_str s x t) F.slot_str_getitem.lookup ?_)
    try dsimp only
    rw [if_pos (by decide)]
    refine wpAny_pure ?_
    try dsimp only
    rw [if_neg (by decide)]
    refine wpAny_bind (P.len_str (by have : sizeLine = 2 ^ 24 := rfl; omega) ?_)
    refine wpAny_bind (wpAny_pure ?_)
    try dsimp only
    refine wpAny_bind ?_
    show wpAny _ _ (newObj (.type "reversed") (.fields #[.str x t, rawInt ((x.length : Int) - 1)])) _ _ _
    exact wpAny_newObj_type (wpAny_pure ⟨_, rfl, h _⟩)
theorem call_reversed_str {Q : Value → Shared → Prop} (hz : x.length ≤ sizeLine)
    (h : ∀ k, Q (.ref s.heap.objs.size) { s with heap := s.heap.push { cls := .type "reversed", data := .fields #[.str x t, rawInt ((x.length : Int) - 1)] }, toks := k }) : wpAny (model prog w) A (call (.type "reversed") [.str x t]) Q E s := by
  refine callType_new F.called_rev (by decide) (F.typeCall_reversed_1 _) (F.newCall_reversed_1 _) (fun obj => F.args_object_init_2 obj _) F.entry_reversed_new (meets_rev_new x t hz) fun k => ?_
  exact ⟨⟨_, Heap.get?_push_size _ rfl, rfl⟩, h k⟩
theorem next_revS_item {it : Addr} {i c : Nat} {Q : Option Value → Shared → Prop} (hit : IsRevStr s.heap it x t (i : Int)) (hx : x.cps[i]? = some c) (hz : x.length ≤ sizeLine)
    (hQ : ∀ h' t' k, IsRevStr h' it x t ((i : Int) - 1) → Heap.SameBut it s.heap h' → Q (some (.str ⟨#[c]⟩ t')) { s with heap := h', toks := k }) : wpAny (model prog w) A (pyNext (.ref it)) Q E s := by
  obtain ⟨o, ho, hc, hd⟩ := id hit
  have hi : i < x.length := by
    have := (Array.getElem?_eq_some_iff.mp hx).1
    exact this
  have hs : sizeLine = 2 ^ 24 := rfl
  unfold pyNext
  refine wpAny_bind (wpAny_attempt (wpAny_callSpecial?_slot (name := Str.ofString "__next__") hit.typeIs F.slot_rev_next
    (wpAny_call_entry F.slot_rev_next hit.typeIs F.entry_rev_next ?_ (F.args_rev_next_1 _))))
  unfold Builtin.«reversed.__next__»
  refine wpAny_bind (wpAny_of_eq (a := (Value.ref it, [])) rfl ?_)
  try dsimp only
  refine wpAny_bind (wpAny_field ho hd (x := .str x t) rfl ?_)
  refine wpAny_bind (wpAny_field ho hd (x := rawInt (i : Int)) rfl ?_)
  show wpAny _ _ (if (i : Int) < 0 then _ else _) _ _ s
  rw [if_neg (by omega)]
  refine wpAny_bind (wpAny_specialOf (typeIs_str s x t) F.slot_str_getitem.lookup ?_)
  try dsimp only
  rw [if_neg (by decide)]
  refine wpAny_bind (wpAny_mkInt ?_)
  refine wpAny_bind (wpAny_attempt (P.getItem_str (c := c) (by
    rw [decide_eq_false (by omega), decide_eq_false (by omega)]; rfl) ?_ ?_))
  · have e : seqIndex? (i : Int) x.length = some i := by
      have h0 : ¬ ((i : Int) < 0) := by omega
      unfold seqIndex?
      simp only [if_neg h0]
      simp [hi]
    rw [e]; exact hx
  try dsimp only
  refine wpAny_bind (wpAny_field ho hd (x := rawInt (i : Int)) rfl ?_)
  show wpAny _ _ (setField (.ref it) 1 (rawInt ((i : Int) - 1)) >>= _) _ _ _
  refine wpAny_bind (wpAny_setField ho hd (by simp) ?_)
  refine wpAny_pure ⟨_, rfl, wpAny_pure (hQ _ _ _ ?_ (Heap.SameBut.update ..))⟩
  exact ⟨_, Heap.get?_update_self _ ho (Obj.isFreed_of_fields (Obj.data_mapFields hd _)), (Obj.cls_mapFields ..).trans hc, by
    rw [Obj.data_mapFields hd]; simp⟩
theorem next_revS_end {it : Addr} {Q : Option Value → Shared → Prop} (hh : A.handled = none) (hit : IsRevStr s.heap it x t (-1))
    (hQ : ∀ h', Heap.ExtBut it s.heap h' → Q none { s with heap := h' }) : wpAny (model prog w) A (pyNext (.ref it)) Q E s := by
  obtain ⟨o, ho, hc, hd⟩ := id hit
  unfold pyNext
  refine wpAny_bind (wpAny_attempt (wpAny_callSpecial?_slot (name := Str.ofString "__next__") hit.typeIs F.slot_rev_next
    (wpAny_call_entry F.slot_rev_next hit.typeIs F.entry_rev_next ?_ (F.args_rev_next_1 _))))
  unfold Builtin.«reversed.__next__»
  refine wpAny_bind (wpAny_of_eq (a := (Value.ref it, [])) rfl ?_)
  try dsimp only
  refine wpAny_bind (wpAny_field ho hd (x := .str x t) rfl ?_)
  refine wpAny_bind (wpAny_field ho hd (x := rawInt (-1)) rfl ?_)
  show wpAny _ _ (if (-1 : Int) < 0 then _ else _) _ _ s
  rw [if_pos (by decide)]
  refine wpAny_bind (wpAny_rule ?_)
  refine wpAny_bind ?_
  refine wpAny_bind (wpAny_setField ho hd (by simp) ?_)
  have ho2 := Heap.get?_update_self (h := s.heap) (a := it) (o := o) (fun o => o.mapFields (·.setIfInBounds 1 (rawInt (-1)))) ho (Obj.isFreed_of_fields (Obj.data_mapFields hd _))
  refine wpAny_setField ho2 (Obj.data_mapFields hd _) (by simp) ?_
  refine wpAny_bind ?_
  show wpAny _ _ (newExc (.type "StopIteration") [] >>= _) _ _ _
  refine wpAny_bind ?_
  simp only [newExc, newTuple]
  refine wpAny_bind (wpAny_newObj_type ?_ (by size_fits))
  refine wpAny_bind (m := firstArgMember _ _) (wpAny_of_eq (a := Value.none) (by first | rfl | (simp only [firstArgMember]; rfl)) ?_)
  refine wpAny_newObj_type ?_ (by size_fits)
  simp only [raiseNew]
  refine wpAny_bind (wpAny_handled ?_)
  first | rw [show A.in1.handled = none from hh] | rw [hh]
  refine wpAny_bind (wpAny_pure (wpAny_throw ?_))
  refine wpAny_bind (wpAny_isInstance (T := "StopIteration") (b := true) ⟨_, Heap.get?_push_size _ rfl, rfl⟩ isSubtype_stop ?_)
  have e0 : Heap.ExtBut it s.heap ((s.heap.update it (Obj.mapFields fun x => x.setIfInBounds 1 (rawInt (-1)))).update it (Obj.mapFields fun x => x.setIfInBounds 0 Value.none)) :=
    fun a o n e => (Heap.SameBut.update ..).extBut a o n ((Heap.SameBut.update ..).extBut a o n e)
  exact wpAny_pure (hQ _ ((e0.push _).push _))
theorem iter_revS {it : Addr} {i : Int} {Q : Value → Shared → Prop} (hit : IsRevStr s.heap it x t i) (h : Q (.ref it) s) : wpAny (model prog w) A (pyIter (.ref it)) Q E s := by
  refine wpAny_pyIter_slot hit.typeIs F.slot_rev_iter (wpAny_call_entry F.slot_rev_iter hit.typeIs F.entry_rev_iter ?_ (F.args_rev_iter_1 _))
  show wpAny _ _ (ret (.ref it)) _ _ s
  exact wpAny_pure ⟨_, rfl, "reversed", _, hit.typeIs, F.slot_rev_next.lookup, h⟩
end
theorem turn_revS {P : Program} {w : World} {K : PySem.W.Frag} {tg : Expr} (it : Addr) (x : Str) (t : Tok) (hz : x.length ≤ sizeLine) :
    Turn P w K tg (ItS x.cps.toList.reverse) [it] it (fun i h => i ≤ x.length ∧ IsRevStr h it x t ((x.length : Int) - 1 - (i : Int))) where
  mem := by simp
  obj := fun i h st b hb => by
    have e : b = it := by simpa using hb
    subst e
    obtain ⟨o, e, c, d⟩ := st.2
    exact ⟨o, e, fun v z => by rw [d] at z; cases z⟩
  keep := fun i h h' st k => ⟨st.1, let ⟨o, ho, r⟩ := st.2; ⟨o, k it (by simp) o ho, r⟩⟩
  item := by
    intro X hP hw hK hc i pins s σ H E I hf st hg
    subst hP hw hK
    have hl : x.cps.toList.reverse.length = x.length := by rw [List.length_reverse]; rfl
    have hi : i < x.length := by rw [← hl]; exact hg
    obtain ⟨f0, f1, f2, f3, f4, f5⟩ := hf it (by simp)
    have e1 : (x.length : Int) - 1 - (i : Int) = ((x.length - 1 - i : Nat) : Int) := by omega
    have e2 : ((x.length - 1 - i : Nat) : Int) - 1 = (x.length : Int) - 1 - ((i + 1 : Nat) : Int) := by omega
    have st2 := st.2
    rw [e1] at st2
    have hlt : x.length - 1 - i < x.cps.size := by show x.length - 1 - i < x.length; omega
    have hx : x.cps[x.length - 1 - i]? = some (x.cps[x.length - 1 - i]) := by simp [hlt]
    have hx2 : x.cps.toList.reverse[i]? = some (x.cps[x.length - 1 - i]) := by
      rw [List.getElem?_reverse (by show i < x.length; exact hi)]
      show x.cps.toList[x.length - 1 - i]? = _
      rw [List.getElem?_eq_getElem (by show x.length - 1 - i < x.length; omega)]
      rfl
    refine next_revS_item st2 hx hz fun h' t' k st' sb => ?_
    rw [e2] at st'
    have I1 : Inv X pins σ H { s with heap := h', toks := k } := I.turned (t' := k) (fun b o hb e => (sb.2 b hb).trans e) f0 f1 f3 f4 f5
    obtain ⟨o, e, c, d⟩ := id st'
    exact ⟨_, rfl, go_of (s := { s with heap := h', toks := k }) e c d (by decide) ⟨.str (tx [x.cps[x.length - 1 - i]]), H, I1, ⟨_, rfl⟩, ⟨rfl, _, hx2, rfl⟩, ⟨hi, st'⟩, fun b hb => (hf b hb).1⟩⟩
  done := by
    intro X hP hw hK hc i pins s σ H E I hf st hg
    subst hP hw hK
    have hl : x.cps.toList.reverse.length = x.length := by rw [List.length_reverse]; rfl
    have hg' : i = x.length := by rw [← hl]; exact hg
    obtain ⟨f0, f1, f2, f3, f4, f5⟩ := hf it (by simp)
    have e1 : (x.length : Int) - 1 - (i : Int) = -1 := by omega
    have st2 := st.2
    rw [e1] at st2
    exact next_revS_end (I.ok.hd hc) st2 fun h' eb => ⟨rfl, I.turned (t' := s.toks) (fun b o hb e => eb b o hb e) f0 f1 f3 f4 f5⟩
  self := fun _ _ _ _ _ st h => iter_revS st.2 h
section
variable {X : Cx} {tg : Expr}
def iRevS (ta : TA) : TI := fun σ H R => ta σ H fun vs H1 => ∃ y : Str, vs = [.str y] ∧ y.length ≤ sizeLine ∧ R (ItS y.cps.toList.reverse) H1
theorem pi_revS {a : Expr} {ta : TA} {p pos : Pos} (hg : Gl X "reversed") (hm : X.mg "reversed" = none) (ha : PA X [a] ta) (hs : starEach [a] X.env = [(false, eval a X.env)] := by rfl) : PI X tg (.Call (.Name "reversed" p) [a] [] pos) (iRevS ta) := by
  intro pins s σ H R I h
  refine Call_ (ld_blt I hg hm PyProof.Rows.boot_reversed (PyProof.Rows.callWith_type1 (thn (ha pos pins s σ H _ I h) fun us s1 ⟨vs, H1, I1, r1, q1⟩ => ?_) hs rfl))
  obtain ⟨y, rfl, hy, q⟩ := q1
  obtain ⟨u, rfl, ru⟩ := vals1 r1
  obtain ⟨t, rfl⟩ := ru
  refine call_reversed_str hy fun k => ?_
  have hit : IsRevStr (s1.heap.push { cls := .type "reversed", data := .fields #[.str y t, rawInt ((y.length : Int) - 1)] }) s1.heap.objs.size y t ((y.length : Int) - 1) := ⟨_, Heap.get?_push_size _ rfl, rfl, rfl⟩
  refine iter_revS (s := { s1 with heap := s1.heap.push { cls := .type "reversed", data := .fields #[.str y t, rawInt ((y.length : Int) - 1)] }, toks := k }) hit ?_
  refine ⟨s1.heap.objs.size, [s1.heap.objs.size], _, _, H1, rfl, I1.kept (t' := k) fun b o e => Heap.get?_push_of_some _ e, turn_revS _ y t hy, ⟨Nat.zero_le _, ?_⟩, fun b hb => ?_, q⟩
  · have e : (y.length : Int) - 1 - ((0 : Nat) : Int) = (y.length : Int) - 1 := by omega
    rw [e]
    exact hit
  · have e : b = s1.heap.objs.size := by simpa using hb
    subst e
    exact I1.fpOk (Nat.le_refl _) (I1.hok.fresh (Nat.le_refl _))
end
def sRev (x : Str) : Str := tx x.cps.toList.reverse
theorem slice_rev (x : Str) (t : Tok) (k : Tok) : sliceMade x t none none (some (-1, k)) = .str (sRev x) := by
  unfold sliceMade
  rw [if_neg (by intro h; rw [Bool.and_eq_true] at h; exact absurd h.1 (by show ¬ ((-1 : Int) == 1) = true; decide))]
  have e : slicePicked x none none (some (-1, k)) = (List.range x.length).map fun k => x.length - 1 - k := by
    show Builtin.Str.strSliceIndices none none (-1) x.length = _
    unfold Builtin.Str.strSliceIndices
    exact PySem.W.krv_sliceRange x.length
  have e2 : ((slicePicked x none none (some (-1, k))).filterMap (x.cps[·]?)) = x.cps.toList.reverse := by
    rw [e, PySem.W.krv_range, List.filterMap_reverse]
    exact congrArg List.reverse (PySem.W.krv_all x.cps)
  rw [e2]
  rfl
def tRevS (te : TE) (ts : TO) : TE := fun σ H Q => te σ H fun x H1 => ts σ H1 fun o H2 => o = some (-1) ∧ ∃ y, x = .str y ∧ y.length ≤ sizeLine ∧ Q (.str (sRev y)) H2
section
variable {X : Cx} {e st : Expr} {te : TE} {ts : TO} {pos p2 : Pos}
theorem pe_revS (he : PE X e te) (hst : PO X (some st) ts) : PE X (.Subscript e (.Slice none none (some st) p2) pos) (tRevS te ts) := by
  intro pins s σ H Q I h
  refine Subscript_ (thn (he pins s σ H _ I h) fun v s1 ⟨x, H1, I1, r1, q1⟩ => ?_)
  refine wpAny_Slice ?_
  rw [evalPart_none]
  refine wpAny_pure (wpAny_pure ?_)
  refine thn (hst pins s1 σ H1 _ I1 q1) fun vk s3 ⟨o, H3, I3, pk, q3⟩ => ?_
  obtain ⟨rfl, y, rfl, hy, q⟩ := q3
  obtain ⟨t, rfl⟩ := r1
  obtain ⟨k, rfl⟩ : ∃ k, vk = .int (-1) k := by cases pk; exact ⟨_, rfl⟩
  show wpAny (model X.prog X.w) X.A (subscriptTail e (.Slice none none (some st) p2) (.str y t) (.ref s3.heap.objs.size)) (EP X pins σ Q) X.xe { s3 with heap := s3.heap.push { cls := .type "slice", data := .fields #[.none, .none, .int (-1) k] } }
  refine tail_any (ops := [.str y t, .ref s3.heap.objs.size]) (typeIs_str _ y t) slot_str_getitem.lookup ?_ (by with_unfolding_all rfl)
  refine wpAny_getItem_str_slice (l := none) (u := none) (st := some (-1, k)) ⟨_, Heap.get?_push_size _ rfl, rfl, rfl⟩ (by show ((-1 : Int) == 0) = false; decide) ?_
  rw [slice_rev]
  have hl : (sRev y).length ≤ sizeLine := by
    show (y.cps.toList.reverse.toArray).size ≤ sizeLine
    simp
    exact hy
  exact ⟨hl, .str (sRev y), H3, (I3.kept (t' := s3.toks + 1) fun b ob q => Heap.get?_push_of_some _ q), ⟨_, rfl⟩, q⟩
end
def rSlS : V → Option Int → Option Int → Hp → VK → Prop := fun x lo hi H Q => ∃ y, x = .str y ∧ y.length ≤ sizeLine ∧ ∀ z : Str, z.length ≤ y.length → Q (.str z) H
theorem part_of {v : Value} {o : Option Int} (p : IsPart v o) : ∃ l : Option (Int × Tok), v = partValue l := by
  cases p with
  | none => exact ⟨none, rfl⟩
  | int i t => exact ⟨some (i, t), rfl⟩
section
variable {X : Cx}
theorem sl_str : SlR X rSlS := by
  intro pins s σ H x v vl vu lo hi sl Q I rx hs pl pu h
  obtain ⟨y, rfl, hy, q⟩ := h
  obtain ⟨t, rfl⟩ := rx
  obtain ⟨l, rfl⟩ := part_of pl
  obtain ⟨u, rfl⟩ := part_of pu
  refine ⟨"str", _, slot_str_getitem.lookup, typeIs_str _ _ _, ?_⟩
  refine wpAny_getItem_str_slice (l := l) (u := u) (st := none) hs rfl ?_
  have hle : ∀ c : Prop, [Decidable c] → (if c then y else (⟨((slicePicked y l u none).filterMap (y.cps[·]?)).toArray⟩ : Str)).length ≤ y.length := fun c _ => by
    split
    · exact Nat.le_refl _
    · show (List.filterMap _ (slicePicked y l u none)).toArray.size ≤ y.length
      rw [List.size_toArray]
      exact Nat.le_trans (List.length_filterMap_le _ _) (indices_len_le _ _ y.length)
  exact post_val_or_str ⟨Nat.le_trans (hle _) hy, fun t' k => ⟨.str _, H, I.tok _, ⟨_, rfl⟩, q _ (hle _)⟩⟩
def sg1 (cs : List Nat) : List V := cs.map fun c => V.str (tx [c])
theorem sg1_len (cs : List Nat) : (sg1 cs).length = cs.length := List.length_map _
theorem sg1_snoc (cs : List Nat) (c : Nat) : sg1 cs ++ [V.str (tx [c])] = sg1 (cs ++ [c]) := by unfold sg1; rw [List.map_append]; rfl
def rJoin (K : PySem.W.Frag) : V → List V → Hp → VK → Prop := fun x xs H Q => ∃ sep p cs, x = .str sep ∧ sep.cps = #[] ∧ xs = [.ref p] ∧ SqL K H p (sg1 cs) ∧ cs.length ≤ 100000 ∧ Q (.str (tx cs)) H
theorem strs_sg1 : ∀ {cs : List Nat} {its : List Value}, Vals (sg1 cs) its → StrsAre its (cs.map fun c => tx [c])
  | [], _, h => by cases h; exact .nil
  | c :: r, _, h => by
    cases h with
    | cons a b =>
      obtain ⟨t, rfl⟩ := a
      exact .cons _ t (strs_sg1 b)
theorem glue_fold : ∀ (cs : List Nat) (a : Array Nat), (cs.map fun c => tx [c]).foldl (fun acc p => acc ++ #[] ++ p.cps) a = a ++ cs.toArray
  | [], a => by simp
  | c :: r, a => by
    show (r.map fun c => tx [c]).foldl (fun acc p => acc ++ #[] ++ p.cps) (a ++ #[] ++ #[c]) = _
    rw [glue_fold r]
    apply Array.ext'
    simp
theorem join_sg {sep : Str} (h : sep.cps = #[]) (cs : List Nat) : Txt.join sep (cs.map fun c => tx [c]) = tx cs := by
  unfold Txt.join Builtin.Str.glued
  rw [h]
  cases cs with
  | nil => rfl
  | cons c r =>
    show (⟨(r.map fun c => tx [c]).foldl (fun acc p => acc ++ #[] ++ p.cps) #[c]⟩ : Str) = _
    rw [glue_fold]
    congr 1
    apply Array.ext'
    simp
theorem sum_ones : ∀ cs : List Nat, ((cs.map fun c => tx [c]).map (·.length)).sum = cs.length
  | [] => rfl
  | c :: r => by
    show 1 + ((r.map fun c => tx [c]).map (·.length)).sum = _
    rw [sum_ones r, List.length_cons]
    omega
theorem mt_join : MtR X "str.join" (rJoin X.K) := by
  intro pins s σ H x xs v us Q I rx rs h
  obtain ⟨sep, p, cs, rfl, hs, rfl, hq, hl, q⟩ := h
  obtain ⟨t, rfl⟩ := rx
  obtain ⟨u, rfl, ru⟩ := vals1 rs
  cases ru
  obtain ⟨its, r, pl, hz⟩ := I.list hq
  have e0 : sep.length = 0 := by show sep.cps.size = 0; rw [hs]; rfl
  refine join_list (x := sep) pl.isList (ys := cs.map fun c => tx [c]) (by simpa using strs_sg1 r) (by rw [sum_ones, e0]; omega) fun t' k => ?_
  rw [join_sg hs]
  exact ⟨.str _, H, I.tok _, ⟨_, rfl⟩, q⟩
def rFind : V → List V → Hp → VK → Prop := fun x xs H Q => ∃ y z, x = .str y ∧ xs = [.str z] ∧ Q (.int (Txt.find y z)) H
theorem mt_find : MtR X "str.find" rFind := by
  intro pins s σ H x xs v us Q I rx rs h
  obtain ⟨y, z, rfl, rfl, q⟩ := h
  obtain ⟨t, rfl⟩ := rx
  obtain ⟨u, rfl, ru⟩ := vals1 rs
  obtain ⟨t2, rfl⟩ := ru
  exact SC.find ⟨.int _, H, I.tok _, ⟨_, rfl⟩, q⟩
def rIndex : V → List V → Hp → VK → Prop := fun x xs H Q => ∃ y z i rest, x = .str y ∧ xs = [.str z] ∧ Builtin.Str.occurrences y z 0 y.length 1 = i :: rest ∧ Q (.int (i : Nat)) H
theorem mt_index : MtR X "str.index" rIndex := by
  intro pins s σ H x xs v us Q I rx rs h
  obtain ⟨y, z, i, rest, rfl, rfl, ho, q⟩ := h
  obtain ⟨t, rfl⟩ := rx
  obtain ⟨u, rfl, ru⟩ := vals1 rs
  obtain ⟨t2, rfl⟩ := ru
  exact SC.index ho ⟨.int _, H, I.tok _, ⟨_, rfl⟩, q⟩
end
theorem comp_rev {K : PySem.W.Frag} {a : Addr} {xs : List V} {g : TG} {te : TE} {n : Nat} {Q : VK} {H1 : Hp} {acc : Addr} (Pv : Nat → Hp → Prop) (h0 : Pv 0 (upd H1 acc (.lst []))) (hl : ∀ i H, i ≤ xs.length → Pv i H → SqL K H a xs)
    (hs : ∀ i x H, i < xs.length → xs[xs.length - 1 - i]? = some x → Pv i H → g x (List.replicate n none) H fun σ2 H2 => te σ2 H2 fun y H3 => ∃ zs, H3 acc = some (.lst zs) ∧ zs.length < sizeLine ∧ Pv (i + 1) (upd H3 acc (.lst (zs ++ [y])))) (hd : ∀ H, Pv xs.length H → Q (.ref acc) H) :
    ∃ W : Nat → Nat → Hp → Prop, (∃ m, W 0 m (upd H1 acc (.lst []))) ∧ ∀ i m H, W i m H →
      ((Itv K a xs.length).stop i H ∧ Q (.ref acc) H) ∨ ((Itv K a xs.length).go i H ∧ ∃ N : VK, (∀ y H3, N y H3 → ∃ zs, H3 acc = some (.lst zs) ∧ zs.length < sizeLine ∧ ∃ m', m' < m ∧ W (i + 1) m' (upd H3 acc (.lst (zs ++ [y])))) ∧
        ∀ x H', (Itv K a xs.length).yld i H x H' → g x (List.replicate n none) H' fun σ2 H2 => te σ2 H2 N) := by
  refine ⟨fun i m H => m = xs.length - i ∧ i ≤ xs.length ∧ Pv i H, ⟨xs.length, by simp, Nat.zero_le _, h0⟩, ?_⟩
  rintro i m H ⟨rfl, hi, p⟩
  have q := hl i H hi p
  by_cases hlt : i < xs.length
  · have hx : xs[xs.length - 1 - i]? = some (xs[xs.length - 1 - i]'(by omega)) := List.getElem?_eq_getElem (by omega)
    refine .inr ⟨⟨hlt, xs, _, q, hx⟩, fun y H3 => ∃ zs, H3 acc = some (.lst zs) ∧ zs.length < sizeLine ∧ Pv (i + 1) (upd H3 acc (.lst (zs ++ [y]))), fun y H3 ⟨zs, z1, z2, z3⟩ => ⟨zs, z1, z2, xs.length - (i + 1), by omega, rfl, hlt, z3⟩, fun x H' y => ?_⟩
    obtain ⟨e, y⟩ := y
    subst e
    exact hs i x _ hlt (y xs q) p
  · have e : i = xs.length := by omega
    subst e
    exact .inl ⟨rfl, hd H p⟩
def four : Str := tx [45, 48, 49, 50]
theorem occ4 (c : Nat) : Builtin.Str.occurrences four (tx [c]) 0 four.length 1 = match Mth.dg c with | some z => [(z + 1).toNat] | none => [] := by
  by_cases h : c ∈ four.cps.toList
  · have h' : c = 45 ∨ c = 48 ∨ c = 49 ∨ c = 50 := by simpa [four, tx] using h
    rcases h' with rfl | rfl | rfl | rfl <;> decide +kernel
  · have h' : c ≠ 45 ∧ c ≠ 48 ∧ c ≠ 49 ∧ c ≠ 50 := by simpa [four, tx] using h
    have e := StrLaws.found_one four c
    rw [decide_eq_false h] at e
    have e2 : Mth.dg c = none := by unfold Mth.dg; rw [if_neg h'.1, if_neg h'.2.1, if_neg h'.2.2.1, if_neg h'.2.2.2]
    rw [e2]
    cases ho : Builtin.Str.occurrences four (tx [c]) 0 four.length 1 with
    | nil => rfl
    | cons i r =>
      have e' : (!(Builtin.Str.occurrences four (tx [c]) 0 four.length 1).isEmpty) = false := e
      rw [ho] at e'
      cases e'
theorem four_is : ("-012" : Str) = four := by decide +kernel
theorem occ4' (c : Nat) : Builtin.Str.occurrences ("-012" : Str) (tx [c]) 0 ("-012" : Str).length 1 = match Mth.dg c with | some z => [(z + 1).toNat] | none => [] := by
  rw [four_is]; exact occ4 c
theorem find4 (c : Nat) : Txt.find ("-012" : Str) (tx [c]) = match Mth.dg c with | some z => z + 1 | none => -1 := by
  unfold Txt.find
  rw [occ4']
  cases h : Mth.dg c with
  | none => rfl
  | some z =>
    have := Mth.dg_fig h
    show (((z + 1).toNat : Nat) : Int) = z + 1
    omega
theorem at4 {z : Int} (h : -1 ≤ z ∧ z ≤ 2) : atI ("-012" : Str).cps.toList (z + 1) = some (Mth.cod z) := by
  have : z = -1 ∨ z = 0 ∨ z = 1 ∨ z = 2 := by omega
  rw [four_is]
  rcases this with rfl | rfl | rfl | rfl <;> decide +kernel
theorem zero_is : ("0" : Str) = tx [48] := by decide +kernel
theorem emp_is : ("" : Str) = tx [] := by decide +kernel
theorem emp_cps : ("" : Str).cps = #[] := by decide +kernel
theorem pu_cs {σ : St} {H : Hp} {x : Str} {cs : List Nat} (h : x = tx cs) : PuE (tC (.str x)) σ H (.str (tx cs)) := by subst h; exact pu_c
theorem dec_s {cs ds : List Nat} : decide (V.str (tx cs) = V.str (tx ds)) = decide (cs = ds) := by
  by_cases h : cs = ds
  · rw [h, decT rfl, decT rfl]
  · rw [decF h, decF (fun e => h (by injection e with e; injection e with e; injection e))]
section
variable {σ : St} {H : Hp}
theorem pu_eqS {ta tb : TE} {cs ds : List Nat} (ha : PuE ta σ H (.str (tx cs))) (hb : PuE tb σ H (.str (tx ds))) : PuE (tOp rEq ta tb) σ H (.bl (decide (cs = ds))) := fun _ q => ha _ (hb _ ⟨rfl, by rw [dec_s]; exact q⟩)
theorem pu_neS {ta tb : TE} {cs ds : List Nat} (ha : PuE ta σ H (.str (tx cs))) (hb : PuE tb σ H (.str (tx ds))) : PuE (tOp rNe ta tb) σ H (.bl (!decide (cs = ds))) := fun _ q => ha _ (hb _ ⟨rfl, by rw [dec_s]; exact q⟩)
end
theorem at_ex {xs : List Nat} {i : Int} (h0 : 0 ≤ i) (h1 : i < (xs.length : Nat)) : ∃ c, atI xs i = some c := by
  have hk : i.toNat < xs.length := by omega
  have e : i = ((i.toNat : Nat) : Int) := by omega
  have q : atI xs ((i.toNat : Nat) : Int) = some (xs[i.toNat]) := atI_nat (List.getElem?_eq_getElem hk)
  rw [← e] at q
  exact ⟨_, q⟩
def TxE (t : TE) (σ : St) (H : Hp) (n : Nat) : Prop := ∀ Q : VK, (∀ z : Str, z.length ≤ n → Q (.str z) H) → t σ H Q
section
variable {σ : St} {H : Hp} {D : Ends}
theorem tx_pu {t : TE} {x : Str} {n : Nat} (h : PuE t σ H (.str x)) (hx : x.length ≤ n) : TxE t σ H n := fun Q q => h _ (q x hx)
theorem tx_ix {ta tb : TE} {z : Str} {i : Int} {m : Nat} (ha : PuE ta σ H (.str z)) (hb : PuE tb σ H (.int i)) (hz : z.length = m) (hm : m ≤ 100000) (h0 : 0 ≤ i) (h1 : i < (m : Nat)) : TxE (tOp rIxS ta tb) σ H 1 := fun Q q => by
  obtain ⟨c, hc⟩ := at_ex (xs := z.cps.toList) h0 (by rw [← hz] at h1; exact h1)
  exact ha _ (hb _ ⟨z, i, c, rfl, rfl, big (by omega), hc, q _ (Nat.le_refl 1)⟩)
theorem tx_add {ta tb : TE} {n m : Nat} (ha : TxE ta σ H n) (hb : TxE tb σ H m) (hz : n + m ≤ 100000) : TxE (tOp (fun x y H Q => ∃ i j, x = .str i ∧ y = .str j ∧ i.length + j.length ≤ sizeLine ∧ Q (.str (i ++ j)) H) ta tb) σ H (n + m) := fun Q q =>
  ha _ fun x hx => hb _ fun y hy => ⟨x, y, rfl, rfl, big (by omega), q _ (by rw [Str.length_append]; omega)⟩
theorem tx_sl {te : TE} {tl th : TO} {lo hi : Option Int} {x : Str} {n : Nat} (he : PuE te σ H (.str x)) (hx : x.length ≤ n) (hn : n ≤ 100000) (hl : ∀ Q : Option Int → Hp → Prop, Q lo H → tl σ H Q) (hh : ∀ Q : Option Int → Hp → Prop, Q hi H → th σ H Q) : TxE (tSl rSlS te tl th) σ H n := fun Q q =>
  he _ (hl _ (hh _ ⟨x, rfl, big (by omega), fun z hz => q z (Nat.le_trans hz hx)⟩))
theorem st_retx {te : TE} {n : Nat} (h : TxE te σ H n) (q : ∀ z : Str, z.length ≤ n → D.rt (.str z) H) : tRet te D σ H := h _ q
theorem st_setx {te : TE} {i n : Nat} (h : TxE te σ H n) (q : ∀ z : Str, z.length ≤ n → tNext D (σ.set i (some (.str z))) H) : tAsg te (gName i) D σ H := h _ q
theorem pu_lenS {ta : TE} {x : Str} (ha : PuE ta σ H (.str x)) (hz : x.length ≤ 100000) : PuE (tCB (fun xs H Q => ∃ z, xs = [.str z] ∧ z.length ≤ sizeLine ∧ Q (.int z.length) H) (tCons ta tNil)) σ H (.int (x.length : Nat)) := fun Q q => ha _ ⟨x, rfl, big hz, q⟩
end
theorem pt_isNT {σ : St} {H : Hp} {ta : TE} (ha : PuE ta σ H .non) : PuT (tTest (tOp (fun x y H Q => y = .non ∧ Q (.bl (decide (x = .non))) H) ta (tC .non))) σ H true := fun Q q => ha _ ⟨rfl, _, rfl, by rw [decide_eq_true rfl]; exact q⟩
theorem tx_of (x : Str) : x = tx x.cps.toList := rfl
theorem tx_len (cs : List Nat) : (tx cs).length = cs.length := rfl
end L2
namespace L2
open PySem PySem.Spec PyProof.Rows
section
variable {P : Program} {w : World} {K : PySem.W.Frag} {mg : Str → Option Value} {base : Heap} {k : Nat} {f : Addr} {fd : FuncData} {ps : List Str}
end
structure RoomS (k : Nat) (A : Around) : Prop where
  dp : A.depth + 3 * k + 5 < recursionLimit
  un : A.units + 16 * k + 200 < cLine
abbrev SpS := List V → Hp → VK → Prop
structure FnOkS (P : Program) (w : World) (K : PySem.W.Frag) (mg : Str → Option Value) (base : Heap) (k : Nat) (f : Addr) (fd : FuncData) (ps : List Str) (sp : SpS) : Prop where
  len : ∀ vs H Q, sp vs H Q → vs.length = ps.length
  run : ∀ (A : Around) (outer : List Env) (s : Shared) (H : Hp) (args : Args) (us : List Value) (vs : List V) (Q : VK), RoomS k A → Env0 P w K mg base A outer s H → BindsTo s fd args (ps.zip us) → Vals vs us → sp vs H Q →
    codeAny (model P w) A (.call (.ref f) args) (CR CX0 outer P w H s Q E0) s
section
variable {σ : St} {H : Hp} {D : Ends}
end
def litS : Expr → Option Str
  | .Constant (.str x) _ _ => some x
  | _ => none
def tValS (xs : List Str) : TA := fun _ H Q => Q (xs.map V.str) H
def tLitS (xs : List Str) : TE := fun _ H Q => ∀ p, H p = none → Q (.ref p) (upd H p (.lst (xs.map V.str)))
section
variable {X : Cx}
theorem pa_litS : ∀ {es : List Expr} {xs : List Str}, es.map litS = xs.map some → PA X es (tValS xs)
  | [], [], _ => pa_nil
  | [], _ :: _, h => by cases h
  | _ :: _, [], h => by cases h
  | e :: es, v :: vs, h => by
    injection h with h1 h2
    unfold litS at h1
    split at h1
    · cases h1
      exact pa_cons pe_str (pa_litS h2) rfl
    · cases h1
theorem pe_litS {es : List Expr} {xs : List Str} {pos : Pos} (h : es.map litS = xs.map some) (hz : xs.length ≤ 1000) : PE X (.List es pos) (tLitS xs) := fun pins s σ H Q I q =>
  (pe_lst (pa_litS h)) pins s σ H Q I ⟨small (by rw [List.length_map]; exact hz), q⟩
end
@[irreducible] def PSsi (X : Cx) (l : List Stmt) (t : TS) : Prop := PSs X l t
theorem pssi {X : Cx} {l : List Stmt} {t : TS} (h : PSs X l t) : PSsi X l t := by unfold PSsi; exact h
theorem pssi_un {X : Cx} {l : List Stmt} {t : TS} (h : PSsi X l t) : PSs X l t := by unfold PSsi at h; exact h
theorem pssi_cons {X : Cx} {st : Stmt} {rest : List Stmt} {t u : TS} (h1 : PSi X st t) (h2 : PSsi X rest u) : PSsi X (st :: rest) (tSeq t u) := pssi (pss_cons (psi_un h1) (pssi_un h2))
theorem pssi_one {X : Cx} {st : Stmt} {t : TS} (h1 : PSi X st t) : PSsi X [st] t := pssi (pss_one (psi_un h1))
theorem psi_if {X : Cx} {c : Expr} {a b : List Stmt} {pos : Pos} {tc : TT} {t u : TS} (hc : PT X c tc) (ha : PSsi X a t) (hb : PSsi X b u) : PSi X (.If c a b pos) (tIfS tc t u) := psi (ps_if hc (pssi_un ha) (pssi_un hb))
theorem pei_litS {X : Cx} {es : List Expr} {xs : List Str} {pos : Pos} (h : es.map litS = xs.map some) (hz : xs.length ≤ 1000) : PEi X (.List es pos) (tLitS xs) := pei (pe_litS h hz)
section
variable {σ : St} {H : Hp} {D : Ends}
end
end L2
namespace My
open PySem L2 Mth
local macro_rules | `(tactic| walk_at "sq") => `(tactic| first | (with_reducible refine sq_mk ?_) | (with_reducible refine sq ?_) | ((with_reducible refine nx_mk ?_); (walk_at "sq")) | ((with_reducible refine gn_ ?_); (walk_at "sq")) | ((with_reducible refine gn2 ?_); (walk_at "sq")) | ((with_reducible refine un_ ?_); (with_reducible refine nx_mk ?_); (walk_at "sq")) | skip)
local macro_rules | `(tactic| walk_at "cond") => `(tactic| first | assumption | exact ⟨by decide, by decide⟩ | exact Or.inl ⟨by decide, by decide⟩ | exact Or.inr ⟨by decide, by decide⟩ | (show (0 : Int) < _; decide) | exact ⟨by decide, by decide, by decide⟩)
local macro_rules | `(tactic| walk_at "sql") => `(tactic| first | assumption | exact SqL.of (by assumption) | exact SqL.of upd_same)
local macro_rules | `(tactic| walk_at "pu") => `(tactic| first
  | (with_reducible exact pu_c)
  | ((with_reducible apply pu_var); exact rfl)
  | (with_reducible exact pu_nil)
  | ((with_reducible apply pu_test); (walk_at "pu"))
  | ((with_reducible apply pu_tB); (walk_at "pu"))
  | ((with_reducible apply pt_not'); (walk_at "pu"))
  | ((with_reducible apply pu_U); (walk_at "pu"))
  | ((with_reducible apply pu_not); (walk_at "pu"))
  | ((with_reducible apply pu_int); (walk_at "pu"))
  | ((with_reducible apply pt_and'); (walk_at "pu"); (intro _; walk_at "pu"))
  | ((with_reducible apply pt_or'); (walk_at "pu"); (intro _; walk_at "pu"))
  | ((with_reducible apply pu_and); (walk_at "pu"); (intro _; walk_at "pu"))
  | ((with_reducible apply pu_or); (walk_at "pu"); (intro _; walk_at "pu"))
  | ((with_reducible apply pu_cons); (walk_at "pu"); (walk_at "pu"))
  | ((with_reducible apply pu_eqI); (walk_at "pu"); (walk_at "pu"))
  | ((with_reducible apply pu_neI); (walk_at "pu"); (walk_at "pu"))
  | ((with_reducible apply pu_eqB); (walk_at "pu"); (walk_at "pu"))
  | ((with_reducible apply pu_neB); (walk_at "pu"); (walk_at "pu"))
  | ((with_reducible apply pu_I0); (walk_at "pu"); (walk_at "pu"))
  | ((with_reducible apply pu_I); (walk_at "pu"); (walk_at "pu"); (walk_at "cond"))
  | ((with_reducible apply pu_chain); (walk_at "pu"); (walk_at "pu"); (walk_at "pu"))
  | ((with_reducible apply pu_len); (walk_at "pu"); (walk_at "sql"))
  | ((with_reducible apply pu_ix); (walk_at "pu"); (walk_at "pu"); (walk_at "sql"); assumption)
  | ((with_reducible apply pu_eqL); (walk_at "pu"); (walk_at "pu"); (walk_at "sql"); (walk_at "sql"))
  | ((with_reducible apply pu_neL); (walk_at "pu"); (walk_at "pu"); (walk_at "sql"); (walk_at "sql")))
def top (i : Nat) : Stmt := PySem.Challenge.pw_calmcount_k07_written_and_read.main.body.getD i (.Pass ⟨0, 0, 0, 0⟩)
abbrev s_is_whole : Stmt := top 7
abbrev s_is_figure : Stmt := top 8
abbrev s_twos_are_apart : Stmt := top 9
abbrev s_mirrored : Stmt := top 10
abbrev s_is_calm : Stmt := top 11
abbrev s_refuse_if_not_calm : Stmt := top 12
abbrev s_shown : Stmt := top 15
abbrev s_figures_of : Stmt := top 16
abbrev s_read : Stmt := top 17
abbrev s_law_cell_at : Stmt := top 19
abbrev s_law_whole : Stmt := top 20
abbrev s_law_calm : Stmt := top 21
abbrev s_law_made_calm : Stmt := top 22
abbrev s_law_row : Stmt := top 23
abbrev s_law_text : Stmt := top 24
abbrev s_law_due : Stmt := top 25
abbrev s_law_sign_by : Stmt := top 26
abbrev s_law_spoiled : Stmt := top 27
abbrev s_law_is_row : Stmt := top 28
abbrev s_law_refused : Stmt := top 29
abbrev s_law : Stmt := top 30
theorem sc_is_whole : FnScope ["value"] ["value"] (defScope s_is_whole) := ⟨rfl, rfl, rfl, by decide +kernel, rfl, by decide +kernel, by decide +kernel⟩
theorem sc_is_figure : FnScope ["value"] ["value"] (defScope s_is_figure) := ⟨rfl, rfl, rfl, by decide +kernel, rfl, by decide +kernel, by decide +kernel⟩
theorem sc_twos_are_apart : FnScope ["row", "open_two", "figure"] ["row"] (defScope s_twos_are_apart) := ⟨rfl, rfl, rfl, by decide +kernel, rfl, by decide +kernel, by decide +kernel⟩
theorem sc_mirrored : FnScope ["row"] ["row"] (defScope s_mirrored) := ⟨rfl, rfl, rfl, by decide +kernel, rfl, by decide +kernel, by decide +kernel⟩
theorem sc_is_calm : FnScope ["row", "figure"] ["row"] (defScope s_is_calm) := ⟨rfl, rfl, rfl, by decide +kernel, rfl, by decide +kernel, by decide +kernel⟩
theorem sc_refuse_if_not_calm : FnScope ["row"] ["row"] (defScope s_refuse_if_not_calm) := ⟨rfl, rfl, rfl, by decide +kernel, rfl, by decide +kernel, by decide +kernel⟩
theorem sc_shown : FnScope ["row"] ["row"] (defScope s_shown) := ⟨rfl, rfl, rfl, by decide +kernel, rfl, by decide +kernel, by decide +kernel⟩
theorem sc_figures_of : FnScope ["text", "row", "sign"] ["text"] (defScope s_figures_of) := ⟨rfl, rfl, rfl, by decide +kernel, rfl, by decide +kernel, by decide +kernel⟩
theorem sc_read : FnScope ["text", "row"] ["text"] (defScope s_read) := ⟨rfl, rfl, rfl, by decide +kernel, rfl, by decide +kernel, by decide +kernel⟩
theorem sc_law_cell_at : FnScope ["_law_script", "_law_k"] ["_law_script", "_law_k"] (defScope s_law_cell_at) := ⟨rfl, rfl, rfl, by decide +kernel, rfl, by decide +kernel, by decide +kernel⟩
theorem sc_law_whole : FnScope ["_law_found"] ["_law_found"] (defScope s_law_whole) := ⟨rfl, rfl, rfl, by decide +kernel, rfl, by decide +kernel, by decide +kernel⟩
theorem sc_law_calm : FnScope ["_law_row_here", "_law_twos", "_law_lows", "_law_figure"] ["_law_row_here"] (defScope s_law_calm) := ⟨rfl, rfl, rfl, by decide +kernel, rfl, by decide +kernel, by decide +kernel⟩
theorem sc_law_made_calm : FnScope ["_law_figures", "_law_row_here", "_law_two", "_law_low", "_law_figure"] ["_law_figures"] (defScope s_law_made_calm) := ⟨rfl, rfl, rfl, by decide +kernel, rfl, by decide +kernel, by decide +kernel⟩
theorem sc_law_row : FnScope ["_law_script", "_law_first", "_law_some", "_law_figures", "_law_second", "_law_at"] ["_law_script"] (defScope s_law_row) := ⟨rfl, rfl, rfl, by decide +kernel, rfl, by decide +kernel, by decide +kernel⟩
theorem sc_law_text : FnScope ["_law_row_here"] ["_law_row_here"] (defScope s_law_text) := ⟨rfl, rfl, rfl, by decide +kernel, rfl, by decide +kernel, by decide +kernel⟩
theorem sc_law_due : FnScope ["_law_line", "_law_row_here", "_law_sign", "_law_figure"] ["_law_line"] (defScope s_law_due) := ⟨rfl, rfl, rfl, by decide +kernel, rfl, by decide +kernel, by decide +kernel⟩
theorem sc_law_sign_by : FnScope ["_law_cell", "_law_some"] ["_law_cell"] (defScope s_law_sign_by) := ⟨rfl, rfl, rfl, by decide +kernel, rfl, by decide +kernel, by decide +kernel⟩
theorem sc_law_spoiled : FnScope ["_law_line", "_law_way", "_law_sign", "_law_cell", "_law_at", "_law_after", "_law_some"] ["_law_line", "_law_way", "_law_sign", "_law_cell"] (defScope s_law_spoiled) := ⟨rfl, rfl, rfl, by decide +kernel, rfl, by decide +kernel, by decide +kernel⟩
theorem sc_law_is_row : FnScope ["_law_found", "_law_due_here", "_law_figure"] ["_law_found", "_law_due_here"] (defScope s_law_is_row) := ⟨rfl, rfl, rfl, by decide +kernel, rfl, by decide +kernel, by decide +kernel⟩
theorem sc_law_refused : FnScope ["_law_line", "_law_refused_here", "_law_told", "e"] ["_law_line"] (defScope s_law_refused) := ⟨rfl, rfl, rfl, by decide +kernel, rfl, by decide +kernel, by decide +kernel⟩
theorem sc_law : FnScope ["_law_script", "_law_row_here", "_law_line", "_law_handed", "_law_found", "_law_third", "_law_sign", "_law_due_here", "_law_again"] ["_law_script"] (defScope s_law) := ⟨rfl, rfl, rfl, by decide +kernel, rfl, by decide +kernel, by decide +kernel⟩
structure Dfn (K : PySem.W.Frag) (mg : Str → Option Value) (x : Str) (st : Stmt) (ps : List Str) (f : Addr) (fd : FuncData) : Prop where
  fn : Fun K x x st f fd
  mg : mg x = some (.ref f)
  bd : Binds K fd ps []
structure Adr where
  c_CountError : Addr
  c_NotCalm : Addr
  c_NoPlace : Addr
  c_NothingDone : Addr
  c_NoText : Addr
  a_is_whole : Addr
  d_is_whole : FuncData
  a_is_figure : Addr
  d_is_figure : FuncData
  a_twos_are_apart : Addr
  d_twos_are_apart : FuncData
  a_mirrored : Addr
  d_mirrored : FuncData
  a_is_calm : Addr
  d_is_calm : FuncData
  a_refuse_if_not_calm : Addr
  d_refuse_if_not_calm : FuncData
  a_shown : Addr
  d_shown : FuncData
  a_figures_of : Addr
  d_figures_of : FuncData
  a_read : Addr
  d_read : FuncData
  a_law_cell_at : Addr
  d_law_cell_at : FuncData
  a_law_whole : Addr
  d_law_whole : FuncData
  a_law_calm : Addr
  d_law_calm : FuncData
  a_law_made_calm : Addr
  d_law_made_calm : FuncData
  a_law_row : Addr
  d_law_row : FuncData
  a_law_text : Addr
  d_law_text : FuncData
  a_law_due : Addr
  d_law_due : FuncData
  a_law_sign_by : Addr
  d_law_sign_by : FuncData
  a_law_spoiled : Addr
  d_law_spoiled : FuncData
  a_law_is_row : Addr
  d_law_is_row : FuncData
  a_law_refused : Addr
  d_law_refused : FuncData
  a_law : Addr
  d_law : FuncData
structure Txt (K : PySem.W.Frag) (mg : Str → Option Value) (t : Adr) : Prop where
  f_is_whole : Dfn K mg "is_whole" s_is_whole ["value"] t.a_is_whole t.d_is_whole
  f_is_figure : Dfn K mg "is_figure" s_is_figure ["value"] t.a_is_figure t.d_is_figure
  f_twos_are_apart : Dfn K mg "twos_are_apart" s_twos_are_apart ["row"] t.a_twos_are_apart t.d_twos_are_apart
  f_mirrored : Dfn K mg "mirrored" s_mirrored ["row"] t.a_mirrored t.d_mirrored
  f_is_calm : Dfn K mg "is_calm" s_is_calm ["row"] t.a_is_calm t.d_is_calm
  f_refuse_if_not_calm : Dfn K mg "refuse_if_not_calm" s_refuse_if_not_calm ["row"] t.a_refuse_if_not_calm t.d_refuse_if_not_calm
  f_shown : Dfn K mg "shown" s_shown ["row"] t.a_shown t.d_shown
  f_figures_of : Dfn K mg "figures_of" s_figures_of ["text"] t.a_figures_of t.d_figures_of
  f_read : Dfn K mg "read" s_read ["text"] t.a_read t.d_read
  f_law_cell_at : Dfn K mg "_law_cell_at" s_law_cell_at ["_law_script", "_law_k"] t.a_law_cell_at t.d_law_cell_at
  f_law_whole : Dfn K mg "_law_whole" s_law_whole ["_law_found"] t.a_law_whole t.d_law_whole
  f_law_calm : Dfn K mg "_law_calm" s_law_calm ["_law_row_here"] t.a_law_calm t.d_law_calm
  f_law_made_calm : Dfn K mg "_law_made_calm" s_law_made_calm ["_law_figures"] t.a_law_made_calm t.d_law_made_calm
  f_law_row : Dfn K mg "_law_row" s_law_row ["_law_script"] t.a_law_row t.d_law_row
  f_law_text : Dfn K mg "_law_text" s_law_text ["_law_row_here"] t.a_law_text t.d_law_text
  f_law_due : Dfn K mg "_law_due" s_law_due ["_law_line"] t.a_law_due t.d_law_due
  f_law_sign_by : Dfn K mg "_law_sign_by" s_law_sign_by ["_law_cell"] t.a_law_sign_by t.d_law_sign_by
  f_law_spoiled : Dfn K mg "_law_spoiled" s_law_spoiled ["_law_line", "_law_way", "_law_sign", "_law_cell"] t.a_law_spoiled t.d_law_spoiled
  f_law_is_row : Dfn K mg "_law_is_row" s_law_is_row ["_law_found", "_law_due_here"] t.a_law_is_row t.d_law_is_row
  f_law_refused : Dfn K mg "_law_refused" s_law_refused ["_law_line"] t.a_law_refused t.d_law_refused
  f_law : Dfn K mg "law" s_law ["_law_script"] t.a_law t.d_law
  kt_NoText_CountError : PySem.W.kitOne K (.ref t.c_NoText) (.ref t.c_CountError) = some true
  es_NoText_CountError : errSub K t.c_NoText t.c_CountError = true
  kt_NoText_NotCalm : PySem.W.kitOne K (.ref t.c_NoText) (.ref t.c_NotCalm) = some false
  kt_NoText_NoPlace : PySem.W.kitOne K (.ref t.c_NoText) (.ref t.c_NoPlace) = some false
  kt_NoText_NothingDone : PySem.W.kitOne K (.ref t.c_NoText) (.ref t.c_NothingDone) = some false
  kt_NoText_NoText : PySem.W.kitOne K (.ref t.c_NoText) (.ref t.c_NoText) = some true
  es_NoText_NoText : errSub K t.c_NoText t.c_NoText = true
  kt_NoText_ValueError : PySem.W.kitOne K (.ref t.c_NoText) (.type "ValueError") = some true
  e_CountError : Err K mg "CountError" t.c_CountError
  e_NotCalm : Err K mg "NotCalm" t.c_NotCalm
  e_NoPlace : Err K mg "NoPlace" t.c_NoPlace
  e_NothingDone : Err K mg "NothingDone" t.c_NothingDone
  e_NoText : Err K mg "NoText" t.c_NoText
  x_NoText : Exi K t.c_NoText
  b_isinstance : mg "isinstance" = none
  b_int : mg "int" = none
  b_bool : mg "bool" = none
  b_len : mg "len" = none
  b_reversed : mg "reversed" = none
  b_list : mg "list" = none
  b_ValueError : mg "ValueError" = none
  b_str : mg "str" = none
  g_SIGNS : ∃ u, mg "SIGNS" = some u ∧ RelV (.str "-012") u
def sp_whole : Sp := fun vs H Q _ => ∃ i : Int, vs = [.int i] ∧ Q (.bl true) H
def sp_figure : Sp := fun vs H Q _ => ∃ i : Int, vs = [.int i] ∧ Q (.bl (isFig i)) H
def sp_twos (K : PySem.W.Frag) : Sp := fun vs H Q _ => ∃ (a : Addr) (ns : List Int), vs = [.ref a] ∧ SqL K H a (iv ns) ∧ Q (.bl (apart false ns)) H
def sp_mirrored (K : PySem.W.Frag) : Sp := fun vs H Q _ => ∃ (a : Addr) (ns : List Int), vs = [.ref a] ∧ SqL K H a (iv ns) ∧ ns.length ≤ 90000 ∧ ∀ (r : Addr) (H' : Hp), H r = none → Same H H' → H' r = some (.lst (iv (mir ns))) → Q (.ref r) H'
def sp_iscalm (K : PySem.W.Frag) : Sp := fun vs H Q _ => ∃ (a : Addr) (ns : List Int), vs = [.ref a] ∧ SqL K H a (iv ns) ∧ ns.length ≤ 90000 ∧ ∀ H', Same H H' → Q (.bl (calmF ns)) H'
section
variable {P : Program} {w : World} {K : PySem.W.Frag} {mg : Str → Option Value} {base : Heap} {t : Adr}
theorem ok_iswhole (T : Txt K mg t) : FnOk P w K mg base CX0 1 t.a_is_whole t.d_is_whole ["value"] sp_whole := by
  refine T.f_is_whole.fn.ok sc_is_whole (fun vs H Q E h => ?_) (fun cdv A outer s H vs Q E hr h => ?_)
  · obtain ⟨i, rfl, _⟩ := h
    rfl
  obtain ⟨i, rfl, q⟩ := h
  refine ⟨_, (pss_one (ps_ret (pe_and (pe_callB call_isin rfl T.b_isinstance boot_isin (pa_cons (pv 0) (pa_cons (pe_bltn (v := .ty "int") rfl T.b_int PyProof.Rows.boot_int rfl) pa_nil))) (pe_one (pe_not (pe_callB call_isin rfl T.b_isinstance boot_isin (pa_cons (pv 0) (pa_cons (pe_bltn (v := .ty "bool") rfl T.b_bool PyProof.Rows.boot_bool rfl) pa_nil)))))))), ?_⟩
  refine ⟨_, rfl, _, _, _, _, rfl, TyOf.int _, kit_int_int K, _, rfl, iteT ?_⟩
  exact ⟨_, rfl, _, _, _, _, rfl, TyOf.int _, kit_int_bool K, _, rfl, q⟩
theorem ok_figure (T : Txt K mg t) (G_is_whole : FnOk P w K mg base CX0 1 t.a_is_whole t.d_is_whole ["value"] sp_whole) : FnOk P w K mg base CX0 2 t.a_is_figure t.d_is_figure ["value"] sp_figure := by
  refine T.f_is_figure.fn.ok sc_is_figure (fun vs H Q E h => ?_) (fun cdv A outer s H vs Q E hr h => ?_)
  · obtain ⟨i, rfl, _⟩ := h
    rfl
  obtain ⟨i, rfl, q⟩ := h
  refine ⟨_, (pss_one (ps_ret (pe_and (pe_call G_is_whole (hr.mono (by decide)) rfl T.f_is_whole.mg T.f_is_whole.fn.kp T.f_is_whole.bd .nil pass0 (pa_cons (pv 0) pa_nil)) (pe_one (pe_chain op_le op_le (pe_un un_neg pe_int) (pv 0) pe_int))))), ?_⟩
  walk_at "sq"
  refine st_ret (pu_and (pu_call (pu_cons (pu_var rfl) pu_nil) (fun Q q => ⟨i, rfl, q⟩)) (fun _ => by walk_at "pu")) ?_
  exact q
theorem ok_twos (T : Txt K mg t) : FnOk P w K mg base CX0 1 t.a_twos_are_apart t.d_twos_are_apart ["row"] (sp_twos K) := by
  refine T.f_twos_are_apart.fn.ok sc_twos_are_apart (fun vs H Q E h => ?_) (fun cdv A outer s H vs Q E hr h => ?_)
  · obtain ⟨a, ns, rfl, _⟩ := h
    rfl
  obtain ⟨a, ns, rfl, hS, q⟩ := h
  refine ⟨_, (pss_cons (ps_set (i := 1) sc_twos_are_apart.nd rfl (Or.inl rfl) pe_bl)
    (pss_cons (ps_for PassesOwn.never rfl (pi_list (pv 0)) (pg_name (i := 2) sc_twos_are_apart.nd rfl (Or.inl rfl)) (pss_cons (ps_if (PW.pt (pw_and (pt_cmpR op_eq (pv 2) pe_int (nomark _)) (pw_and1 (pt_val (pv 1))))) (pss_one (ps_ret pe_bl)) pss_nil)
    (pss_one (ps_if (pt_cmpR op_eq (pv 2) pe_int (nomark _)) (pss_one (ps_set (i := 1) sc_twos_are_apart.nd rfl (Or.inl rfl) pe_bl)) (pss_one (ps_if (pt_cmpR op_lt (pv 2) pe_int (nomark _)) (pss_one (ps_set (i := 1) sc_twos_are_apart.nd rfl (Or.inl rfl) pe_bl)) pss_nil))))))
    (pss_one (ps_ret pe_bl)))), ?_⟩
  walk_at "sq"
  refine st_set (v := .bl false) (by walk_at "pu") ?_
  walk_at "sq"
  refine st_for (K := K) (a := a) (xs := iv ns) (by walk_at "pu") hS (fun i σ H2 => H2 = H ∧ ∃ b f, σ = [some (.ref a), some (.bl b), f] ∧ apart b (ns.drop i) = apart false ns)
    ⟨rfl, false, none, rfl, rfl⟩ (fun i σ H2 _ ⟨e, _⟩ => by rw [e]; exact hS) ?_ ?_
  · rintro i x σ H2 hx ⟨rfl, b, f, rfl, hb⟩
    obtain ⟨z, hz, rfl⟩ := ints_get hx
    rw [drop_at hz] at hb
    simp only [apart] at hb
    walk_at "sq"
    refine st_if (b := decide (z = 2) && b) (by walk_at "pu") (fun e => ?_) (fun e => ?_)
    · rw [Bool.and_eq_true] at e
      obtain ⟨e1, e2⟩ := e
      have e1 := of_decide_eq_true e1
      walk_at "sq"
      refine st_ret (v := .bl false) (by walk_at "pu") ?_
      rw [if_pos e1, if_pos e2] at hb
      rw [← hb] at q
      exact q
    · walk_at "sq"
      refine st_if (b := decide (z = 2)) (by walk_at "pu") (fun e1 => ?_) (fun e1 => ?_)
      · have e1' := of_decide_eq_true e1
        have e2 : b = false := by simpa [e1'] using e
        subst e2
        rw [if_pos e1'] at hb
        walk_at "sq"
        exact st_set (v := .bl true) (by walk_at "pu") ⟨rfl, _, _, rfl, hb⟩
      · have e1' := of_decide_eq_false e1
        rw [if_neg e1'] at hb
        walk_at "sq"
        refine st_if (b := decide (z < 1)) (by walk_at "pu") (fun e2 => ?_) (fun e2 => ?_)
        · rw [if_pos (of_decide_eq_true e2)] at hb
          walk_at "sq"
          exact st_set (v := .bl false) (by walk_at "pu") ⟨rfl, _, _, rfl, hb⟩
        · rw [if_neg (of_decide_eq_false e2)] at hb
          exact ⟨rfl, _, _, rfl, hb⟩
  · rintro σ H2 ⟨rfl, b, f, rfl, hb⟩
    rw [ints_len, List.drop_length] at hb
    walk_at "sq"
    refine st_ret (v := .bl true) (by walk_at "pu") ?_
    have e : apart b [] = true := rfl
    rw [← hb, e] at q
    exact q
theorem ok_mirrored (T : Txt K mg t) : FnOk P w K mg base CX0 1 t.a_mirrored t.d_mirrored ["row"] (sp_mirrored K) := by
  refine T.f_mirrored.fn.ok sc_mirrored (fun vs H Q E h => ?_) (fun cdv A outer s H vs Q E hr h => ?_)
  · obtain ⟨a, ns, rfl, _⟩ := h
    rfl
  obtain ⟨a, ns, rfl, hS, hl, q⟩ := h
  refine ⟨_, (pss_one (ps_ret (pe_comp (N := ["figure"]) rfl (by decide +kernel) (by decide +kernel) rfl (by decide +kernel) (pi_list (pv 0)) (fun _ _ _ _ => (pg_name (i := 0) (show List.Nodup (["figure"] : List Str) by decide +kernel) rfl (Or.inl rfl))) (fun _ _ _ _ => (pe_op op_sub pe_int (pv 0)))))), ?_⟩
  refine ⟨_, rfl, a, rfl, ⟨_, hS⟩, fun r hr0 => comp_list (K := K) (a := a) (xs := iv ns) (fun i H2 => Same H H2 ∧ H2 r = some (.lst (iv (mir (ns.take i))))) ⟨same_new hr0 _, upd_same⟩ (fun i H2 _ h => h.1.seq hS) ?_ ?_⟩
  · rintro i x H2 hx ⟨sm, h2⟩
    obtain ⟨z, hz, rfl⟩ := ints_get hx
    have hi := get_lt hz
    refine ⟨_, rfl, _, _, rfl, rfl, iv (mir (ns.take i)), h2, bigL (by rw [ints_len]; unfold mir; rw [List.length_map, List.length_take]; omega), same_upd hr0 sm _, ?_⟩
    rw [upd_same, take_at hz, mir_append, ← ints_app]
    rfl
  · rintro H2 ⟨sm, h2⟩
    rw [ints_len, List.take_length] at h2
    exact q r H2 hr0 sm h2
theorem end_test (ns : List Int) : endOk ns = !(decide ((0 : Int) < ((iv ns).length : Nat)) && decide (ns.getLast?.getD 1 = 0)) := by
  rw [ints_len]
  unfold endOk
  cases e : ns.getLast? with
  | none =>
    have : ns = [] := List.getLast?_eq_none_iff.mp e
    subst this
    rfl
  | some z =>
    have hne : ns ≠ [] := by intro q; rw [q] at e; cases e
    have hl : 0 < ns.length := List.length_pos_iff.mpr hne
    have hl' : (0 : Int) < (ns.length : Nat) := by omega
    rw [decT hl', Bool.true_and]
    congr 1
    by_cases q : z = 0
    · subst q; simp
    · simp [q]
theorem last_at {ns : List Int} (h : (0 : Int) < ((iv ns).length : Nat)) : atI (iv ns) (-1) = some (.int (ns.getLast?.getD 1)) := by
  rw [ints_len] at h
  have hne : ns ≠ [] := by intro q; subst q; exact absurd h (by decide)
  cases e : ns.getLast? with
  | none => exact absurd (List.getLast?_eq_none_iff.mp e) hne
  | some z => exact atI_end (last_ints e)
theorem pt_last {σ : St} {H : Hp} {a : Addr} {ns : List Int} {i : Nat} (hv : σ[i]? = some (some (.ref a))) (hS : SqL K H a (iv ns)) :
    PuT (tAnd (tTest (tOp (rI0 fun i j => .bl (decide (j < i))) (tCB (fun xs H Q => ∃ p ys, xs = [.ref p] ∧ (SqL K H p ys ∨ SqT K H p ys) ∧ Q (.int ys.length) H) (tCons (tVar i) tNil)) (tC (.int 0))))
      (tTest (tOp rEq (tOp (rIxL K) (tVar i) (tUn (rU fun i => .int (-i)) (tC (.int 1)))) (tC (.int 0))))) σ H (!endOk ns) := by
  rw [end_test, Bool.not_not]
  exact pt_and' (pu_test (pu_I0 (g := fun i j => .bl (decide (j < i))) (pu_len (K := K) (pu_var hv) hS) pu_c)) (fun e => pu_test (pu_eqI (pu_ix (K := K) (pu_var hv) (pu_U (g := fun i => .int (-i)) pu_c) hS (last_at (of_decide_eq_true e))) pu_c))
theorem ok_iscalm (T : Txt K mg t) (G_is_figure : FnOk P w K mg base CX0 2 t.a_is_figure t.d_is_figure ["value"] sp_figure) (G_twos_are_apart : FnOk P w K mg base CX0 1 t.a_twos_are_apart t.d_twos_are_apart ["row"] (sp_twos K))
    (G_mirrored : FnOk P w K mg base CX0 1 t.a_mirrored t.d_mirrored ["row"] (sp_mirrored K)) : FnOk P w K mg base CX0 3 t.a_is_calm t.d_is_calm ["row"] (sp_iscalm K) := by
  refine T.f_is_calm.fn.ok sc_is_calm (fun vs H Q E h => ?_) (fun cdv A outer s H vs Q E hr h => ?_)
  · obtain ⟨a, ns, rfl, _⟩ := h
    rfl
  obtain ⟨a, ns, rfl, hS, hl, q⟩ := h
  refine ⟨_, (pss_cons (ps_for PassesOwn.never rfl (pi_list (pv 0)) (pg_name (i := 1) sc_is_calm.nd rfl (Or.inl rfl)) (pss_one (ps_if (pt_not (pt_val (pe_call G_is_figure (hr.mono (by decide)) rfl T.f_is_figure.mg T.f_is_figure.fn.kp T.f_is_figure.bd .nil pass0 (pa_cons (pv 1) pa_nil)))) (pss_one (ps_ret pe_bl)) pss_nil)))
    (pss_cons (ps_if (PW.pt (pw_and (pt_cmpR op_gt (pe_callB call_len_seq rfl T.b_len PySem.boot_len (pa_cons (pv 0) pa_nil)) pe_int (nomark _)) (pw_and1 (pt_cmpR op_eq (pe_ix ix_list (pv 0) (pe_un un_neg pe_int) (fun _ _ => rfl)) pe_int (nomark _))))) (pss_one (ps_ret pe_bl)) pss_nil)
    (pss_one (ps_ret (pe_and (pe_call G_twos_are_apart (hr.mono (by decide)) rfl T.f_twos_are_apart.mg T.f_twos_are_apart.fn.kp T.f_twos_are_apart.bd .nil pass0 (pa_cons (pv 0) pa_nil)) (pe_one (pe_call G_twos_are_apart (hr.mono (by decide)) rfl T.f_twos_are_apart.mg T.f_twos_are_apart.fn.kp T.f_twos_are_apart.bd .nil pass0 (pa_cons (pe_call G_mirrored (hr.mono (by decide)) rfl T.f_mirrored.mg T.f_mirrored.fn.kp T.f_mirrored.bd .nil pass0 (pa_cons (pv 0) pa_nil)) pa_nil)))))))), ?_⟩
  walk_at "sq"
  refine st_for (K := K) (a := a) (xs := iv ns) (by walk_at "pu") hS (fun i σ H2 => H2 = H ∧ ∃ f, σ = [some (.ref a), f] ∧ (ns.take i).all isFig = true)
    ⟨rfl, none, rfl, rfl⟩ (fun i σ H2 _ ⟨e, _⟩ => by rw [e]; exact hS) ?_ ?_
  · rintro i x σ H2 hx ⟨rfl, f, rfl, hb⟩
    obtain ⟨z, hz, rfl⟩ := ints_get hx
    walk_at "sq"
    refine st_if (b := !isFig z) (pt_not' (pu_tB (pu_call (pu_cons (pu_var rfl) pu_nil) (fun Q q => ⟨z, rfl, q⟩)))) (fun e => ?_) (fun e => ?_)
    · walk_at "sq"
      refine st_ret (v := .bl false) (by walk_at "pu") ?_
      have e2 : ns.all isFig = false := by
        have hf : isFig z = false := by simpa using e
        rw [List.all_eq_false]
        exact ⟨z, List.mem_of_getElem? hz, by rw [hf]; simp⟩
      have := q H2 (Same.refl _)
      unfold calmF at this
      rw [e2] at this
      exact this
    · refine ⟨rfl, _, rfl, ?_⟩
      have e2 : isFig z = true := by simpa using e
      rw [take_at hz, List.all_append, hb]
      simp [e2]
  · rintro σ H2 ⟨rfl, f, rfl, hb⟩
    rw [ints_len, List.take_length] at hb
    have hq : ∀ H', Same H2 H' → Q (.bl (endOk ns && (apart false ns && apart false (mir ns)))) H' := fun H' sm => by
      have := q H' sm
      unfold calmF at this
      rw [hb, Bool.true_and] at this
      exact this
    walk_at "sq"
    refine st_if (pt_last (K := K) rfl hS) (fun e => ?_) (fun e => ?_)
    · walk_at "sq"
      refine st_ret (v := .bl false) (by walk_at "pu") ?_
      have := hq H2 (Same.refl _)
      rw [notT e] at this
      exact this
    · have hq' : ∀ H', Same H2 H' → Q (.bl (apart false ns && apart false (mir ns))) H' := fun H' sm => by
        have := hq H' sm
        rw [notF e] at this
        exact this
      refine ⟨_, rfl, a, ns, rfl, hS, _, rfl, ?_⟩
      refine ite2 (fun c => ?_) (fun c => ?_)
      · rw [c] at hq'
        exact ⟨_, rfl, a, ns, rfl, hS, hl, fun r H' nr sm hr' => ⟨r, mir ns, rfl, SqL.of hr', hq' H' sm⟩⟩
      · have c' : apart false ns = false := by simpa using c
        rw [c'] at hq'
        exact hq' H2 (Same.refl _)
theorem all_calm (T : Txt K mg t) : FnOk P w K mg base CX0 3 t.a_is_calm t.d_is_calm ["row"] (sp_iscalm K) := ok_iscalm T (ok_figure T (ok_iswhole T)) (ok_twos T) (ok_mirrored T)
end
def sp_cell (K : PySem.W.Frag) : Sp := fun vs H Q _ => ∃ (a : Addr) (ns : List Int) (k : Int), vs = [.ref a, .int k] ∧ SqL K H a (iv ns) ∧ 0 ≤ k ∧ ∀ v : Int, Q (.int v) H
section
variable {P : Program} {w : World} {K : PySem.W.Frag} {mg : Str → Option Value} {base : Heap} {t : Adr}
theorem ok_cell (T : Txt K mg t) : FnOk P w K mg base CX0 1 t.a_law_cell_at t.d_law_cell_at ["_law_script", "_law_k"] (sp_cell K) := by
  refine T.f_law_cell_at.fn.ok sc_law_cell_at (fun vs H Q E h => ?_) (fun cdv A outer s H vs Q E hr h => ?_)
  · obtain ⟨a, ns, k, rfl, _⟩ := h
    rfl
  obtain ⟨a, ns, k, rfl, hS, h0, q⟩ := h
  refine ⟨_, (pss_cons (ps_if (pt_cmpR op_lt (pv 1) (pe_callB call_len_seq rfl T.b_len PySem.boot_len (pa_cons (pv 0) pa_nil)) (nomark _)) (pss_one (ps_ret (pe_ix ix_list (pv 0) (pv 1) (fun _ _ => rfl)))) pss_nil)
    (pss_one (ps_ret pe_int))), ?_⟩
  walk_at "sq"
  refine st_if (by walk_at "pu") (fun c => ?_) (fun c => ?_)
  · have c' : k < (((iv ns).length : Nat) : Int) := of_decide_eq_true c
    rw [ints_len] at c'
    have hv := atI_ints h0 c'
    walk_at "sq"
    exact st_ret (by walk_at "pu") (q _)
  · exact q 0
end
def sp_lwhole : Sp := fun vs H Q _ => ∃ i : Int, vs = [.int i] ∧ Q (.bl true) H
section
variable {P : Program} {w : World} {K : PySem.W.Frag} {mg : Str → Option Value} {base : Heap} {t : Adr}
theorem ok_lwhole (T : Txt K mg t) : FnOk P w K mg base CX0 1 t.a_law_whole t.d_law_whole ["_law_found"] sp_lwhole := by
  refine T.f_law_whole.fn.ok sc_law_whole (fun vs H Q E h => ?_) (fun cdv A outer s H vs Q E hr h => ?_)
  · obtain ⟨i, rfl, _⟩ := h
    rfl
  obtain ⟨i, rfl, q⟩ := h
  refine ⟨_, (pss_one (ps_ret (pe_and (pe_callB call_isin rfl T.b_isinstance boot_isin (pa_cons (pv 0) (pa_cons (pe_bltn (v := .ty "int") rfl T.b_int PyProof.Rows.boot_int rfl) pa_nil))) (pe_one (pe_not (pe_callB call_isin rfl T.b_isinstance boot_isin (pa_cons (pv 0) (pa_cons (pe_bltn (v := .ty "bool") rfl T.b_bool PyProof.Rows.boot_bool rfl) pa_nil)))))))), ?_⟩
  refine ⟨_, rfl, _, _, _, _, rfl, TyOf.int _, kit_int_int K, _, rfl, iteT ?_⟩
  exact ⟨_, rfl, _, _, _, _, rfl, TyOf.int _, kit_int_bool K, _, rfl, q⟩
end
def sp_lcalm (K : PySem.W.Frag) : Sp := fun vs H Q _ => ∃ (a : Addr) (ns : List Int), vs = [.ref a] ∧ SqL K H a (iv ns) ∧ ∀ H', Same H H' → Q (.bl (calmF ns)) H'
theorem cntF_cons (tw lw z : Int) (r : List Int) : cntF tw lw (z :: r) = if z < -1 ∨ 2 < z then false else
    if 1 < (if z < 1 then 0 else if z = 2 then tw + 1 else tw) ∨ 1 < (if 0 < z then 0 else if z = -1 then lw + 1 else lw) then false else cntF (if z < 1 then 0 else if z = 2 then tw + 1 else tw) (if 0 < z then 0 else if z = -1 then lw + 1 else lw) r := rfl
section
variable {P : Program} {w : World} {K : PySem.W.Frag} {mg : Str → Option Value} {base : Heap} {t : Adr}
theorem ok_lcalm (T : Txt K mg t) : FnOk P w K mg base CX0 1 t.a_law_calm t.d_law_calm ["_law_row_here"] (sp_lcalm K) := by
  refine T.f_law_calm.fn.ok sc_law_calm (fun vs H Q E h => ?_) (fun cdv A outer s H vs Q E hr h => ?_)
  · obtain ⟨a, ns, rfl, _⟩ := h
    rfl
  obtain ⟨a, ns, rfl, hS, q⟩ := h
  refine ⟨_, (pss_cons (ps_set (i := 1) sc_law_calm.nd rfl (Or.inl rfl) pe_int)
    (pss_cons (ps_set (i := 2) sc_law_calm.nd rfl (Or.inl rfl) pe_int)
    (pss_cons (ps_for PassesOwn.never rfl (pi_list (pv 0)) (pg_name (i := 3) sc_law_calm.nd rfl (Or.inl rfl)) (pss_cons (ps_if (PW.pt (pw_or (pt_cmpR op_lt (pv 3) (pe_un un_neg pe_int) (nomark _)) (pw_or1 (pt_cmpR op_gt (pv 3) pe_int (nomark _))))) (pss_one (ps_ret pe_bl)) pss_nil)
    (pss_cons (ps_if (pt_cmpR op_eq (pv 3) pe_int (nomark _)) (pss_one (ps_set (i := 1) sc_law_calm.nd rfl (Or.inl rfl) (pe_op op_add (pv 1) pe_int))) pss_nil)
    (pss_cons (ps_if (pt_cmpR op_lt (pv 3) pe_int (nomark _)) (pss_one (ps_set (i := 1) sc_law_calm.nd rfl (Or.inl rfl) pe_int)) pss_nil)
    (pss_cons (ps_if (pt_cmpR op_eq (pv 3) (pe_un un_neg pe_int) (nomark _)) (pss_one (ps_set (i := 2) sc_law_calm.nd rfl (Or.inl rfl) (pe_op op_add (pv 2) pe_int))) pss_nil)
    (pss_cons (ps_if (pt_cmpR op_gt (pv 3) pe_int (nomark _)) (pss_one (ps_set (i := 2) sc_law_calm.nd rfl (Or.inl rfl) pe_int)) pss_nil)
    (pss_one (ps_if (PW.pt (pw_or (pt_cmpR op_gt (pv 1) pe_int (nomark _)) (pw_or1 (pt_cmpR op_gt (pv 2) pe_int (nomark _))))) (pss_one (ps_ret pe_bl)) pss_nil))))))))
    (pss_one (ps_ret (pe_or (pe_cmpR (op_eqL hr.units) (pv 0) (pe_lst pa_nil) (nomark _)) (pe_one (pe_cmpR op_ne (pe_ix ix_list (pv 0) (pe_un un_neg pe_int) (fun _ _ => rfl)) pe_int (nomark _))))))))), ?_⟩
  rw [calm_cnt] at q
  walk_at "sq"
  refine st_set (v := .int 0) (by walk_at "pu") ?_
  walk_at "sq"
  refine st_set (v := .int 0) (by walk_at "pu") ?_
  walk_at "sq"
  refine st_for (K := K) (a := a) (xs := iv ns) (by walk_at "pu") hS (fun i σ H2 => H2 = H ∧ ∃ tw lw f, σ = [some (.ref a), some (.int tw), some (.int lw), f] ∧ cntF tw lw (ns.drop i) = cntF 0 0 ns)
    ⟨rfl, 0, 0, none, rfl, rfl⟩ (fun i σ H2 _ ⟨e, _⟩ => by rw [e]; exact hS) ?_ ?_
  · rintro i x σ H2 hx ⟨rfl, tw, lw, f, rfl, hb⟩
    obtain ⟨z, hz, rfl⟩ := ints_get hx
    rw [drop_at hz, cntF_cons] at hb
    walk_at "sq"
    refine st_if (b := decide (z < -1) || decide (2 < z)) (by walk_at "pu") (fun c => ?_) (fun c => ?_)
    · have c' : z < -1 ∨ 2 < z := by simpa using c
      rw [if_pos c'] at hb
      rw [← hb] at q
      walk_at "sq"
      exact st_ret (v := .bl false) (by walk_at "pu") (q _ (Same.refl _))
    have c' : ¬ (z < -1 ∨ 2 < z) := by
      intro h
      rcases h with h | h <;> simp [h] at c
    rw [if_neg c'] at hb
    walk_at "sq"
    refine st_ifset (w := tw) (v := tw + 1) (b := decide (z = 2)) (by walk_at "pu") (fun _ => by walk_at "pu") rfl ?_
    walk_at "sq"
    refine st_ifset (w := if decide (z = 2) = true then tw + 1 else tw) (v := 0) (b := decide (z < 1)) (by walk_at "pu") (fun _ => by walk_at "pu") rfl ?_
    walk_at "sq"
    refine st_ifset (w := lw) (v := lw + 1) (b := decide (z = -1)) (by walk_at "pu") (fun _ => by walk_at "pu") rfl ?_
    walk_at "sq"
    refine st_ifset (w := if decide (z = -1) = true then lw + 1 else lw) (v := 0) (b := decide (0 < z)) (by walk_at "pu") (fun _ => by walk_at "pu") rfl ?_
    simp only [decide_eq_true_eq]
    generalize (if z < 1 then 0 else if z = 2 then tw + 1 else tw) = tw2 at *
    generalize (if 0 < z then 0 else if z = -1 then lw + 1 else lw) = lw2 at *
    walk_at "sq"
    refine st_if (b := decide (1 < tw2) || decide (1 < lw2)) (by walk_at "pu") (fun d => ?_) (fun d => ?_)
    · have d' : 1 < tw2 ∨ 1 < lw2 := by simpa using d
      rw [if_pos d'] at hb
      rw [← hb] at q
      walk_at "sq"
      exact st_ret (v := .bl false) (by walk_at "pu") (q _ (Same.refl _))
    · have d' : ¬ (1 < tw2 ∨ 1 < lw2) := by
        intro h
        rcases h with h | h <;> simp [h] at d
      rw [if_neg d'] at hb
      exact ⟨rfl, _, _, _, rfl, hb⟩
  · rintro σ H2 ⟨rfl, tw, lw, f, rfl, hb⟩
    rw [ints_len, List.drop_length] at hb
    have hb' : true = cntF 0 0 ns := hb
    rw [← hb', Bool.true_and] at q
    refine ⟨_, rfl, Nat.zero_le _, fun e he => ⟨a, e, ns, [], rfl, rfl, (same_new he _).seq hS, SqL.of upd_same, _, rfl, ?_⟩⟩
    have q' := q _ (same_new he (.lst []))
    by_cases c : ns = []
    · refine iteC (decT c) ?_
      rw [c] at q'
      exact q'
    · refine iteD (decF c) ?_
      have hp : (0 : Int) < ((iv ns).length : Nat) := by rw [ints_len]; have := List.length_pos_iff.mpr c; omega
      refine (pu_neI (pu_ix (K := K) (pu_var rfl) (pu_U (g := fun i => .int (-i)) pu_c) ((same_new he _).seq hS) (last_at hp)) pu_c) _ ?_
      rw [end_test, decT hp, Bool.true_and] at q'
      exact q'
end
def sp_made (K : PySem.W.Frag) : Sp := fun vs H Q _ => ∃ (a : Addr) (ns : List Int), vs = [.ref a] ∧ SqL K H a (iv ns) ∧ ns.length ≤ 80000 ∧ (∀ x ∈ ns, -1 ≤ x ∧ x ≤ 2) ∧
  ∀ (r : Addr) (fs : List Int) (H' : Hp), H r = none → Same H H' → H' r = some (.lst (iv fs)) → fs.length ≤ ns.length → calmF fs = true → Q (.ref r) H'
section
variable {P : Program} {w : World} {K : PySem.W.Frag} {mg : Str → Option Value} {base : Heap} {t : Adr}
theorem fig_fix {x : Int} {two low : Bool} (h1 : -1 ≤ x) (h2 : x ≤ 2) (y z : Int) (ey : y = if (decide (x = 2) && !two) then 1 else x) (ez : z = if (decide (y = -1) && !low) then 0 else y) : -1 ≤ z ∧ z ≤ 2 ∧ (z = 2 → two = true) ∧ (z = -1 → low = true) := by
  subst ey
  subst ez
  cases two <;> cases low <;> (by_cases a : x = 2 <;> by_cases b : x = -1 <;> simp [a, b] <;> omega)
theorem ok_made (T : Txt K mg t) : FnOk P w K mg base CX0 1 t.a_law_made_calm t.d_law_made_calm ["_law_figures"] (sp_made K) := by
  refine T.f_law_made_calm.fn.ok sc_law_made_calm (fun vs H Q E h => ?_) (fun cdv A outer s H vs Q E hr h => ?_)
  · obtain ⟨a, ns, rfl, _⟩ := h
    rfl
  obtain ⟨a, ns, rfl, hS, hl, hfg, q⟩ := h
  refine ⟨_, (pss_cons (ps_set (i := 1) sc_law_made_calm.nd rfl (Or.inl rfl) (pe_lst pa_nil))
    (pss_cons (ps_set (i := 2) sc_law_made_calm.nd rfl (Or.inl rfl) pe_bl)
    (pss_cons (ps_set (i := 3) sc_law_made_calm.nd rfl (Or.inl rfl) pe_bl)
    (pss_cons (ps_for PassesOwn.never rfl (pi_list (pv 0)) (pg_name (i := 4) sc_law_made_calm.nd rfl (Or.inl rfl)) (pss_cons (ps_if (PW.pt (pw_and (pt_cmpR op_eq (pv 4) pe_int (nomark _)) (pw_and1 (pt_not (pt_val (pv 2)))))) (pss_one (ps_set (i := 4) sc_law_made_calm.nd rfl (Or.inl rfl) pe_int)) pss_nil)
    (pss_cons (ps_if (PW.pt (pw_and (pt_cmpR op_eq (pv 4) (pe_un un_neg pe_int) (nomark _)) (pw_and1 (pt_not (pt_val (pv 3)))))) (pss_one (ps_set (i := 4) sc_law_made_calm.nd rfl (Or.inl rfl) pe_int)) pss_nil)
    (pss_cons (ps_set (i := 2) sc_law_made_calm.nd rfl (Or.inl rfl) (pe_and (pe_cmpR op_ne (pv 4) pe_int (nomark _)) (pe_one (pe_or (pv 2) (pe_one (pe_cmpR op_lt (pv 4) pe_int (nomark _)))))))
    (pss_cons (ps_set (i := 3) sc_law_made_calm.nd rfl (Or.inl rfl) (pe_and (pe_cmpR op_ne (pv 4) (pe_un un_neg pe_int) (nomark _)) (pe_one (pe_or (pv 3) (pe_one (pe_cmpR op_gt (pv 4) pe_int (nomark _)))))))
    (pss_one (ps_expr (pe_bm PySem.F.plainAttrs_list PySem.F.slot_list_append PySem.F.type_list_append mt_append (pv 1) (pa_cons (pv 4) pa_nil)))))))))
    (pss_cons (ps_while PassesOwn.never (PW.pt (pw_and (pt_cmpR (op_neL hr.units) (pv 1) (pe_lst pa_nil) (nomark _)) (pw_and1 (pt_cmpR op_eq (pe_ix ix_list (pv 1) (pe_un un_neg pe_int) (fun _ _ => rfl)) pe_int (nomark _))))) (pss_one (ps_expr (pe_bm0 PySem.F.plainAttrs_list PySem.F.slot_list_pop PySem.F.type_list_pop mt_pop (pv 1)))))
    (pss_one (ps_ret (pv 1)))))))), ?_⟩
  walk_at "sq"
  refine st_new fun r hr0 => ?_
  walk_at "sq"
  refine st_set (v := .bl true) (by walk_at "pu") ?_
  walk_at "sq"
  refine st_set (v := .bl true) (by walk_at "pu") ?_
  walk_at "sq"
  refine st_for (K := K) (a := a) (xs := iv ns) (by walk_at "pu") ((same_new hr0 _).seq hS) (fun i σ H2 => ∃ fs b1 b2 f, σ = [some (.ref a), some (.ref r), some (.bl b1), some (.bl b2), f] ∧ Same H H2 ∧ H2 r = some (.lst (iv fs)) ∧ fs.length = i ∧ MC fs b1 b2)
    ⟨[], true, true, none, rfl, same_new hr0 _, upd_same, rfl, MC.start⟩ (fun i σ H2 _ ⟨_, _, _, _, _, sm, _⟩ => sm.seq hS) ?_ ?_
  · rintro i x σ H2 hx ⟨fs, b1, b2, f, rfl, sm, h1, hf, mc⟩
    obtain ⟨z, hz, rfl⟩ := ints_get hx
    have hi := get_lt hz
    have hzf := hfg z (List.mem_of_getElem? hz)
    walk_at "sq"
    refine st_ifset (w := z) (by walk_at "pu") (fun _ => by walk_at "pu") rfl ?_
    walk_at "sq"
    refine st_ifset (by walk_at "pu") (fun _ => by walk_at "pu") rfl ?_
    obtain ⟨g1, g2, g3, g4⟩ := fig_fix (two := b1) (low := b2) hzf.1 hzf.2 _ _ rfl rfl
    walk_at "sq"
    refine st_set (by walk_at "pu") ?_
    walk_at "sq"
    refine st_set (by walk_at "pu") ?_
    walk_at "sq"
    refine st_append (K := K) (l := r) (by walk_at "pu") (by walk_at "pu") h1 (by rw [ints_len]; omega) ?_
    exact ⟨fs ++ [_], _, _, _, rfl, same_upd hr0 sm _, by rw [upd_same, ← ints_app]; rfl, by rw [List.length_append]; simp [hf], mc.step g1 g2 g3 g4 rfl rfl⟩
  · rintro σ H2 ⟨fs, b1, b2, f, rfl, sm, h1, hf, mc⟩
    rw [ints_len] at hf
    refine sq ⟨fun m σ' H3 => ∃ gs f, σ' = [some (.ref a), some (.ref r), some (.bl b1), some (.bl b2), f] ∧ Same H H3 ∧ H3 r = some (.lst (iv gs)) ∧ gs.length = m ∧ m ≤ ns.length ∧ Cm gs, ⟨fs.length, fs, f, rfl, sm, h1, rfl, by omega, mc.cm⟩, ?_⟩
    rintro m σ' H3 ⟨gs, f', rfl, sm3, h3, rfl, hm, cm⟩
    refine ⟨_, rfl, Nat.zero_le _, fun e he => ⟨r, e, gs, [], rfl, rfl, SqL.of (same_new he _ _ _ h3), SqL.of upd_same, _, rfl, ?_⟩⟩
    have sm4 := sm3.trans (same_new he (.lst []))
    have h4 := same_new he (.lst []) _ _ h3
    by_cases c : gs = []
    · refine iteD (by rw [c]; rfl) (iteF ?_)
      walk_at "sq"
      refine st_ret (by walk_at "pu") (q r gs _ hr0 sm4 h4 hm ?_)
      rw [c]; rfl
    · refine iteC (by rw [decF c]; rfl) ?_
      have hp : (0 : Int) < ((iv gs).length : Nat) := by rw [ints_len]; have := List.length_pos_iff.mpr c; omega
      have hv := last_at hp
      refine (pu_test (pu_eqI (pu_ix (K := K) (pu_var rfl) (by walk_at "pu") (SqL.of h4) hv) pu_c)) _ ?_
      obtain ⟨y, hy⟩ : ∃ y, gs.getLast? = some y := by
        cases hgl : gs.getLast? with
        | none => exact absurd (List.getLast?_eq_none_iff.mp hgl) c
        | some y => exact ⟨y, rfl⟩
      rw [hy]
      refine ite2 (fun e2 => ?_) (fun e2 => ?_)
      · have e2' : y = 0 := of_decide_eq_true e2
        have hyl : (iv gs)[(iv gs).length - 1]? = some ((iv gs)[(iv gs).length - 1]'(by rw [ints_len]; have := List.length_pos_iff.mpr c; omega)) := List.getElem?_eq_getElem _
        have hgl := List.length_pos_iff.mpr c
        refine ⟨fun σ2 H5 => ∃ f, σ2 = [some (.ref a), some (.ref r), some (.bl b1), some (.bl b2), f] ∧ Same H H5 ∧ H5 r = some (.lst (iv gs.dropLast)), fun σ2 H5 ⟨f2, e1, e2, e3⟩ => ⟨gs.length - 1, by omega, gs.dropLast, f2, e1, e2, e3, List.length_dropLast, by omega, ?_⟩, ?_⟩
        · have := cm
          rw [← List.dropLast_concat_getLast c] at this
          exact this.front
        · walk_at "sq"
          refine st_pop (K := K) (l := r) (by walk_at "pu") h4 hyl ?_
          exact ⟨_, rfl, same_upd hr0 sm4 _, by rw [upd_same, ints_dropLast]⟩
      · have e2' : y ≠ 0 := fun z => e2 (by rw [z]; rfl)
        walk_at "sq"
        refine st_ret (by walk_at "pu") (q r gs _ hr0 sm4 h4 hm (calm_end cm ?_))
        rw [hy]
        intro z
        injection z with z
        exact e2' z
end
def sp_refCalmE (K : PySem.W.Frag) (C : Addr) : Sp := fun vs H Q E => ∃ (a : Addr) (ns : List Int), vs = [.ref a] ∧ SqL K H a (iv ns) ∧ ns.length ≤ 90000 ∧ (calmF ns = true → ∀ H', Same H H' → Q .non H') ∧ (calmF ns = false → ∀ H', Same H H' → E (.ref C) none H')
def sp_shown (K : PySem.W.Frag) (C : Addr) : Sp := fun vs H Q E => ∃ (a : Addr) (ns : List Int), vs = [.ref a] ∧ SqL K H a (iv ns) ∧ ns.length ≤ 90000 ∧ (calmF ns = true → ∀ H', Same H H' → Q (.str (tx (textF ns))) H') ∧ (calmF ns = false → ∀ H', Same H H' → E (.ref C) none H')
section
variable {P : Program} {w : World} {K : PySem.W.Frag} {mg : Str → Option Value} {base : Heap} {t : Adr}
theorem ok_refCalmE (T : Txt K mg t) (G_is_calm : FnOk P w K mg base CX0 3 t.a_is_calm t.d_is_calm ["row"] (sp_iscalm K)) : FnOk P w K mg base (CX1 P w) 4 t.a_refuse_if_not_calm t.d_refuse_if_not_calm ["row"] (sp_refCalmE K t.c_NotCalm) := by
  refine T.f_refuse_if_not_calm.fn.okE sc_refuse_if_not_calm (fun vs H Q E h => ?_) (fun cdv A outer s H vs Q E hr h => ?_)
  · obtain ⟨a, ns, rfl, _⟩ := h
    rfl
  obtain ⟨a, ns, rfl, hS, hl, q0, q1⟩ := h
  refine ⟨_, (pss_one (ps_if (pt_not (pt_val (pe_call G_is_calm (hr.mono (by decide)) rfl T.f_is_calm.mg T.f_is_calm.fn.kp T.f_is_calm.bd .nil pass0 (pa_cons (pv 0) pa_nil)))) (pss_one (ps_raise rais_cx rfl T.e_NotCalm rfl (pa_cons pe_str pa_nil))) pss_nil)), ?_⟩
  walk_at "sq"
  refine st_ifQ ⟨_, rfl, a, ns, rfl, hS, hl, fun H1 s1 => ⟨_, rfl, ?_⟩⟩
  cases hc : calmF ns
  · exact iteT ⟨small (by show 1 ≤ 1000; decide), q1 hc H1 s1⟩
  · exact iteF (q0 hc H1 s1)
theorem ok_shown (T : Txt K mg t) (G_refuse_if_not_calm : FnOk P w K mg base (CX1 P w) 4 t.a_refuse_if_not_calm t.d_refuse_if_not_calm ["row"] (sp_refCalmE K t.c_NotCalm)) :
    FnOk P w K mg base (CX1 P w) 5 t.a_shown t.d_shown ["row"] (sp_shown K t.c_NotCalm) := by
  refine T.f_shown.fn.okE sc_shown (fun vs H Q E h => ?_) (fun cdv A outer s H vs Q E hr h => ?_)
  · obtain ⟨a, ns, rfl, _⟩ := h
    rfl
  obtain ⟨a, ns, rfl, hS, hl, q0, q1⟩ := h
  refine ⟨_, (pss_cons (ps_expr (pe_call G_refuse_if_not_calm (hr.mono (by decide)) rfl T.f_refuse_if_not_calm.mg T.f_refuse_if_not_calm.fn.kp T.f_refuse_if_not_calm.bd .nil (pass1 fun _ _ _ z => z) (pa_cons (pv 0) pa_nil)))
    (pss_cons (ps_if (pt_cmpR op_eq (pe_callB call_len_seq rfl T.b_len PySem.boot_len (pa_cons (pv 0) pa_nil)) pe_int (nomark _)) (pss_one (ps_ret pe_str)) pss_nil)
    (pss_one (ps_ret (pe_bm PySem.F.plainAttrs_str PySem.F.slot_str_join PySem.F.type_str_join mt_join pe_str (pa_cons (pe_comp (N := ["figure"]) rfl (by decide +kernel) (by decide +kernel) rfl (by decide +kernel) (pi_rev rfl T.b_reversed (pa_cons (pv 0) pa_nil)) (fun _ _ _ _ => (pg_name (i := 0) (show List.Nodup (["figure"] : List Str) by decide +kernel) rfl (Or.inl rfl))) (fun _ _ _ _ => (pe_ix ix_str (pe_globE rfl T.g_SIGNS) (pe_op op_add (pv 0) pe_int) (fun _ _ => rfl)))) pa_nil)))))), ?_⟩
  walk_at "sq"
  refine ⟨_, rfl, a, ns, rfl, hS, hl, fun hc H1 s1 => ?_, fun hc H1 s1 => q1 hc H1 s1⟩
  have S1 := s1.seq hS
  have qq := q0 hc
  have hall := calm_figs hc
  clear q0 q1
  walk_at "sq"
  refine st_if (b := decide ((((iv ns).length : Nat) : Int) = 0)) (by walk_at "pu") (fun e => ?_) (fun e => ?_)
  · have e0 : ns = [] := by
      have := of_decide_eq_true e
      rw [ints_len] at this
      exact List.length_eq_zero_iff.mp (by omega)
    subst e0
    walk_at "sq"
    exact st_ret (pu_cs zero_is) (qq H1 s1)
  · have e0 : ns ≠ [] := fun z => by rw [z] at e; cases e
    have et : textF ns = (ns.map cod).reverse := by unfold textF; rw [if_neg e0]
    rw [et] at qq
    refine ⟨rfl, _, rfl, a, _, rfl, S1, fun r hr0 => comp_rev (g := gName 0) (n := 1) (Q := fun x H1 => rJoin K (.str "") [x] H1 Q) (K := K) (a := a) (xs := iv ns) (fun i H2 => Same H1 H2 ∧ H2 r = some (.lst (sg1 ((ns.map cod).reverse.take i)))) ⟨same_new hr0 _, upd_same⟩ (fun i H2 _ h => h.1.seq S1) ?_ ?_⟩
    · rintro i x H2 hi hx ⟨sm, h2⟩
      obtain ⟨z, hz, rfl⟩ := ints_get hx
      rw [ints_len] at hi hz
      have hzf := hall z (List.mem_of_getElem? hz)
      have hn : (ns.map cod).reverse[i]? = some (cod z) := by
        rw [List.getElem?_reverse (by rw [List.length_map]; exact hi), List.length_map, List.getElem?_map, hz]
        rfl
      refine ⟨_, rfl, _, _, rfl, rfl, _, _, cod z, rfl, rfl, small (by decide), at4 hzf, _, h2, bigL (by rw [sg1_len, List.length_take]; omega), same_upd hr0 sm _, ?_⟩
      rw [upd_same, take_at hn]
      exact congrArg (fun l => some (HO.lst l)) (sg1_snoc _ _)
    · rintro H2 ⟨sm, h2⟩
      rw [ints_len, List.take_of_length_le (by simp)] at h2
      exact ⟨_, r, _, rfl, emp_cps, rfl, SqL.of h2, by simp; omega, qq H2 (s1.trans sm)⟩
end
def sp_figs (C : Addr) : Sp := fun vs H Q E => ∃ cs : List Nat, vs = [.str (tx cs)] ∧ cs.length ≤ 90000 ∧ (∀ ys, dgs cs.reverse = some ys → ∀ (r : Addr) (H' : Hp), H r = none → Same H H' → H' r = some (.lst (iv ys)) → Q (.ref r) H') ∧ (dgs cs.reverse = none → ∀ H', Same H H' → E (.ref C) none H')
def sp_read (C : Addr) : Sp := fun vs H Q E => ∃ cs : List Nat, vs = [.str (tx cs)] ∧ cs.length ≤ 90000 ∧ (∀ ys, readF cs = some ys → ∀ (r : Addr) (H' : Hp), H r = none → Same H H' → H' r = some (.lst (iv ys)) → Q (.ref r) H') ∧ (readF cs = none → ∀ H', Same H H' → E (.ref C) none H')
section
variable {P : Program} {w : World} {K : PySem.W.Frag} {mg : Str → Option Value} {base : Heap} {t : Adr}
theorem ok_figs (T : Txt K mg t) : FnOk P w K mg base (CX1 P w) 1 t.a_figures_of t.d_figures_of ["text"] (sp_figs t.c_NoText) := by
  refine T.f_figures_of.fn.okE sc_figures_of (fun vs H Q E h => ?_) (fun cdv A outer s H vs Q E hr h => ?_)
  · obtain ⟨cs, rfl, _⟩ := h
    rfl
  obtain ⟨cs, rfl, hl, q0, q1⟩ := h
  refine ⟨_, (pss_cons (ps_set (i := 1) sc_figures_of.nd rfl (Or.inl rfl) (pe_lst pa_nil))
    (pss_cons (ps_for own_loops rfl (pi_revS rfl T.b_reversed (pa_cons (pv 0) pa_nil)) (pg_name (i := 2) sc_figures_of.nd rfl (Or.inl rfl)) (pss_cons (ps_if (pt_cmpR op_notin_str (pv 2) (pe_globE rfl T.g_SIGNS) (by with_unfolding_all rfl)) (pss_one (ps_raise rais_cx rfl T.e_NoText rfl (pa_cons pe_str pa_nil))) pss_nil)
    (pss_one (ps_expr (pe_bm PySem.F.plainAttrs_list PySem.F.slot_list_append PySem.F.type_list_append mt_append (pv 1) (pa_cons (pe_op op_sub (pe_bm PySem.F.plainAttrs_str PySem.F.slot_str_index PySem.F.type_str_index mt_index (pe_globE rfl T.g_SIGNS) (pa_cons (pv 2) pa_nil)) pe_int) pa_nil))))))
    (pss_one (ps_ret (pv 1))))), ?_⟩
  walk_at "sq"
  refine st_new fun r nr => ?_
  walk_at "sq"
  refine ⟨_, rfl, _, rfl, big (by show cs.length ≤ 100000; omega), for_sg (cs := cs.reverse) (fun i σ H2 => ∃ f ys, σ = [some (.str (tx cs)), some (.ref r), f] ∧ Same H H2 ∧ H2 r = some (.lst (iv ys)) ∧ dgs (cs.reverse.take i) = some ys) ⟨none, [], rfl, same_new nr _, upd_same, rfl⟩ ?_ ?_⟩
  · rintro i c σ H2 hc ⟨f, ys, rfl, sm, h2, hd⟩
    have hi := get_lt hc
    rw [List.length_reverse] at hi
    walk_at "sq"
    refine st_ifQ ⟨_, rfl, _, _, rfl, rfl, _, rfl, ?_⟩
    rw [occ4']
    cases hg : dg c with
    | none => exact iteT ⟨small (by show 1 ≤ 1000; decide), q1 (dgs_none hc hg) H2 sm⟩
    | some z =>
      have hln := dgs_len hd
      rw [List.length_take] at hln
      have ho := occ4' c
      rw [hg] at ho
      have hz := dg_fig hg
      refine iteF ?_
      walk_at "sq"
      refine ⟨_, rfl, .inl ⟨rfl, _, SqL.of h2⟩, rfl, _, rfl, _, _, _, _, rfl, rfl, ho, _, _, rfl, rfl, r, _, _, rfl, rfl, h2, bigL (by rw [ints_len]; omega), ?_⟩
      refine ⟨_, ys ++ [z], rfl, same_upd nr sm _, ?_, by rw [take_at hc]; exact dgs_snoc hd hg⟩
      rw [upd_same, ← ints_app]
      have e1 : (((z + 1).toNat : Nat) : Int) - 1 = z := by omega
      show some (HO.lst (iv ys ++ [V.int ((((z + 1).toNat : Nat) : Int) - 1)])) = _
      rw [e1]
      rfl
  · rintro σ H2 ⟨f, ys, rfl, sm, h2, hd⟩
    rw [List.take_length] at hd
    walk_at "sq"
    exact st_ret (by walk_at "pu") (q0 ys hd r H2 nr sm h2)
theorem ok_read (T : Txt K mg t) (G_figures_of : FnOk P w K mg base (CX1 P w) 1 t.a_figures_of t.d_figures_of ["text"] (sp_figs t.c_NoText)) (G_is_calm : FnOk P w K mg base CX0 3 t.a_is_calm t.d_is_calm ["row"] (sp_iscalm K)) :
    FnOk P w K mg base (CX1 P w) 4 t.a_read t.d_read ["text"] (sp_read t.c_NoText) := by
  refine T.f_read.fn.okE sc_read (fun vs H Q E h => ?_) (fun cdv A outer s H vs Q E hr h => ?_)
  · obtain ⟨cs, rfl, _⟩ := h
    rfl
  obtain ⟨cs, rfl, hl, q0, q1⟩ := h
  refine ⟨_, (pss_cons (ps_if (pt_cmpR op_eq (pv 0) pe_str (nomark _)) (pss_one (ps_ret (pe_lst pa_nil))) pss_nil)
    (pss_cons (ps_if (pt_cmpR op_eq (pv 0) pe_str (nomark _)) (pss_one (ps_raise rais_cx rfl T.e_NoText rfl (pa_cons pe_str pa_nil))) pss_nil)
    (pss_cons (ps_set (i := 1) sc_read.nd rfl (Or.inl rfl) (pe_call G_figures_of (hr.mono (by decide)) rfl T.f_figures_of.mg T.f_figures_of.fn.kp T.f_figures_of.bd .nil (pass1 fun _ _ _ z => z) (pa_cons (pv 0) pa_nil)))
    (pss_cons (ps_if (pt_not (pt_val (pe_call G_is_calm (hr.mono (by decide)) rfl T.f_is_calm.mg T.f_is_calm.fn.kp T.f_is_calm.bd .nil pass0 (pa_cons (pv 1) pa_nil)))) (pss_one (ps_raise rais_cx rfl T.e_NoText rfl (pa_cons pe_str pa_nil))) pss_nil)
    (pss_one (ps_ret (pv 1))))))), ?_⟩
  walk_at "sq"
  refine st_if (b := decide (cs = [48])) (pu_test (pu_eqS (ds := [48]) (pu_var rfl) (pu_cs zero_is))) (fun e => ?_) (fun e => ?_)
  · have e0 := of_decide_eq_true e
    walk_at "sq"
    exact ⟨Nat.zero_le _, fun p hp => q0 [] (by rw [e0]; rfl) p _ hp (same_new hp _) upd_same⟩
  have e0 := of_decide_eq_false e
  have er : readF cs = (dgs cs.reverse).bind fun ys => if ys = [] then none else if calmF ys = true then some ys else none := by unfold readF; rw [if_neg e0]
  walk_at "sq"
  refine st_if (b := decide (cs = [])) (pu_test (pu_eqS (ds := []) (pu_var rfl) (pu_cs emp_is))) (fun e => ?_) (fun e => ?_)
  · have e1 := of_decide_eq_true e
    subst e1
    exact ⟨small (by show 1 ≤ 1000; decide), q1 rfl H (Same.refl _)⟩
  have e1 := of_decide_eq_false e
  walk_at "sq"
  refine st_te ⟨_, rfl, cs, rfl, hl, fun ys hd r H1 nr s1 h1 => ?_, fun hd H1 s1 => q1 (by rw [er, hd]; rfl) H1 s1⟩
  have hln := dgs_len hd
  rw [List.length_reverse] at hln
  have ey : ys ≠ [] := fun z => e1 (List.length_eq_zero_iff.mp (by rw [← hln, z]; rfl))
  have er2 : readF cs = if calmF ys = true then some ys else none := by
    rw [er, hd]
    show (if ys = [] then none else if calmF ys = true then some ys else none) = _
    rw [if_neg ey]
  walk_at "sq"
  refine st_ifQ ⟨_, rfl, r, ys, rfl, SqL.of h1, by omega, fun H2 s2 => ⟨_, rfl, ?_⟩⟩
  cases hc : calmF ys
  · exact iteT ⟨small (by show 1 ≤ 1000; decide), q1 (by rw [er2, hc]; rfl) H2 (s1.trans s2)⟩
  · refine iteF ?_
    walk_at "sq"
    exact st_ret (by walk_at "pu") (q0 ys (by rw [er2, hc]; rfl) r H2 nr (s1.trans s2) (s2 _ _ h1))
end
def sp_row (K : PySem.W.Frag) : Sp := fun vs H Q _ => ∃ (a : Addr) (ns : List Int), vs = [.ref a] ∧ SqL K H a (iv ns) ∧
  ∀ (r : Addr) (fs : List Int) (H' : Hp), H r = none → Same H H' → H' r = some (.lst (iv fs)) → fs.length ≤ 400 → calmF fs = true → Q (.ref r) H'
abbrev some0 : List Int := [-1, 0, 1, 2]
abbrev some1 : List Int := [1, 1, 2, 1, 0, 1, 1, -1]
abbrev some2 : List Int := [0, 0, -1, 0, 1, 0, 0, 2]
def sp_text (K : PySem.W.Frag) : Sp := fun vs H Q _ => ∃ (a : Addr) (ns : List Int), vs = [.ref a] ∧ SqL K H a (iv ns) ∧ ns.length ≤ 90000 ∧ calmF ns = true ∧ ∀ H', Same H H' → Q (.str (tx (textF ns))) H'
def sp_due (K : PySem.W.Frag) : Sp := fun vs H Q _ => ∃ cs : List Nat, vs = [.str (tx cs)] ∧ cs.length ≤ 90000 ∧ (∀ ys, readF cs = some ys → ∀ (r : Addr) (H' : Hp), H r = none → Same H H' → H' r = some (.lst (iv ys)) → Q (.ref r) H') ∧ (readF cs = none → ∀ H', Same H H' → Q .non H')
def sp_sign : Sp := fun vs H Q _ => ∃ k : Int, vs = [.int k] ∧ ∀ y : Str, y.length ≤ 1 → Q (.str y) H
def sp_spoiled : Sp := fun vs H Q _ => ∃ (x y : Str) (k c : Int), vs = [.str x, .int k, .str y, .int c] ∧ 0 < x.length ∧ x.length ≤ 500 ∧ y.length ≤ 1 ∧ ∀ (z : Str) (H' : Hp), z.length ≤ 5000 → Same H H' → Q (.str z) H'
def sp_isrow (K : PySem.W.Frag) : Sp := fun vs H Q _ => ∃ (a b : Addr) (ns : List Int), vs = [.ref a, .ref b] ∧ H a = some (.lst (iv ns)) ∧ SqL K H b (iv ns) ∧ Q (.bl true) H
def sp_refused : Sp := fun vs H Q _ => ∃ cs : List Nat, vs = [.str (tx cs)] ∧ cs.length ≤ 90000 ∧ readF cs = none ∧ ∀ H', Same H H' → Q (.bl true) H'
section
variable {P : Program} {w : World} {K : PySem.W.Frag} {mg : Str → Option Value} {base : Heap} {t : Adr}
theorem ok_row (T : Txt K mg t) (G_law_cell_at : FnOk P w K mg base CX0 1 t.a_law_cell_at t.d_law_cell_at ["_law_script", "_law_k"] (sp_cell K)) (G_law_made_calm : FnOk P w K mg base CX0 1 t.a_law_made_calm t.d_law_made_calm ["_law_figures"] (sp_made K)) :
    FnOk P w K mg base CX0 2 t.a_law_row t.d_law_row ["_law_script"] (sp_row K) := by
  refine T.f_law_row.fn.ok sc_law_row (fun vs H Q E h => ?_) (fun cdv A outer s H vs Q E hr h => ?_)
  · obtain ⟨a, ns, rfl, _⟩ := h
    rfl
  obtain ⟨a, ns, rfl, hS, q⟩ := h
  refine ⟨_, (pss_cons (ps_set (i := 1) sc_law_row.nd rfl (Or.inl rfl) (pe_call G_law_cell_at (hr.mono (by decide)) rfl T.f_law_cell_at.mg T.f_law_cell_at.fn.kp T.f_law_cell_at.bd .nil pass0 (pa_cons (pv 0) (pa_cons pe_int pa_nil))))
    (pss_cons (ps_set (i := 2) sc_law_row.nd rfl (Or.inr rfl) (pe_ix ix_list (pe_lst (pa_cons (pe_lits (vs := [-1, 0, 1, 2]) rfl (by decide)) (pa_cons (pe_lits (vs := [1, 1, 2, 1, 0, 1, 1, -1]) rfl (by decide)) (pa_cons (pe_lits (vs := [0, 0, -1, 0, 1, 0, 0, 2]) rfl (by decide)) pa_nil)))) (pe_op op_mod (pv 1) pe_int) (fun _ _ => rfl)))
    (pss_cons (ps_setCompF (Nt := ["_law_cell"]) ["_law_some"] [2] (i := 3) sc_law_row.nd rfl rfl rfl rfl (by decide +kernel) (by decide +kernel) rfl (by decide +kernel) rfl (pi_list (pe_slice sl_list (pv 0) (po_some pe_int) (po_some pe_int))) (fun _ _ _ _ _ => (pg_name (i := 0) (show List.Nodup ((["_law_cell"] : List Str) ++ (["_law_some"] : List Str) : List Str) by decide +kernel) rfl (Or.inl rfl))) (fun _ _ _ _ _ => (pe_ix (ix_listK (K := K) rfl) (pe_var (i := 1) rfl (.inr (.inl rfl))) (pe_op op_mod (pv 0) (pe_callB (call_len_seqK (K := K) rfl) rfl T.b_len PySem.boot_len (pa_cons (pe_var (i := 1) rfl (.inr (.inl rfl))) pa_nil))) (fun _ _ => rfl))))
    (pss_cons (ps_if (pt_cmpR op_eq (pe_op op_mod (pe_op op_fdiv (pv 1) pe_int) pe_int) pe_int (nomark _)) (pss_cons (ps_set (i := 4) sc_law_row.nd rfl (Or.inl rfl) (pe_call G_law_cell_at (hr.mono (by decide)) rfl T.f_law_cell_at.mg T.f_law_cell_at.fn.kp T.f_law_cell_at.bd .nil pass0 (pa_cons (pv 0) (pa_cons pe_int pa_nil))))
    (pss_cons (ps_set (i := 5) sc_law_row.nd rfl (Or.inl rfl) (pe_op op_mod (pe_op op_fdiv (pv 4) pe_int) (pe_op op_add (pe_callB call_len_seq rfl T.b_len PySem.boot_len (pa_cons (pv 3) pa_nil)) pe_int)))
    (pss_one (ps_set (i := 3) sc_law_row.nd rfl (Or.inl rfl) (pe_op op_cat (pe_op op_cat (pe_slice sl_list (pv 3) po_none (po_some (pv 5))) (pe_op op_rep (pe_lst (pa_cons (pe_op op_mod (pv 4) pe_int) pa_nil)) (pe_op op_mod (pe_op op_fdiv (pv 4) pe_int) pe_int))) (pe_slice sl_list (pv 3) (po_some (pv 5)) po_none)))))) pss_nil)
    (pss_one (ps_ret (pe_call G_law_made_calm (hr.mono (by decide)) rfl T.f_law_made_calm.mg T.f_law_made_calm.fn.kp T.f_law_made_calm.bd .nil pass0 (pa_cons (pv 3) pa_nil)))))))), ?_⟩
  walk_at "sq"
  refine ⟨_, rfl, a, ns, 0, rfl, hS, Int.le_refl 0, fun v0 => ?_⟩
  walk_at "sq"
  refine st_teop (te_lits3 fun m0 m1 m2 m H1 s1 e0 e1 e2 hm => ?_)
  have g1 := Int.emod_nonneg v0 (show (3 : Int) ≠ 0 by decide)
  have g2 := Int.emod_lt_of_pos v0 (show (0 : Int) < 3 by decide)
  obtain ⟨mm, ms, hat, hms, hm1, hm2, hfg⟩ : ∃ mm ms, atI [V.ref m0, V.ref m1, V.ref m2] (v0 % 3) = some (.ref mm) ∧ H1 mm = some (.lst (iv ms)) ∧ 0 < ms.length ∧ ms.length ≤ 8 ∧ Fg ms := by
    have h3 : v0 % 3 = 0 ∨ v0 % 3 = 1 ∨ v0 % 3 = 2 := by omega
    rcases h3 with e | e | e <;> rw [e]
    · exact ⟨m0, some0, rfl, e0, by decide, by decide, by intro x hx; simp at hx; omega⟩
    · exact ⟨m1, some1, rfl, e1, by decide, by decide, by intro x hx; simp at hx; omega⟩
    · exact ⟨m2, some2, rfl, e2, by decide, by decide, by intro x hx; simp at hx; omega⟩
  refine ⟨_, rfl, _, _, rfl, rfl, (by show (0 : Int) < 3; decide), m, _, _, _, rfl, rfl, SqL.of hm, hat, ?_⟩
  clear hat e0 e1 e2 hm
  refine ⟨_, rfl, _, rfl, _, rfl, a, _, rfl, s1.seq hS, fun c nc => ?_⟩
  have ec : cutV (iv ns) (some 4) (some 63) = iv ((ns.drop 4).take 59) := by
    have := cut_mid (iv ns) 4 63 (by decide)
    rw [ints_drop, ints_take] at this
    exact this
  rw [ec]
  have hcl : ((ns.drop 4).take 59).length ≤ 59 := by rw [List.length_take]; omega
  generalize (ns.drop 4).take 59 = cs at *
  have s2 := s1.trans (same_new nc (.lst (iv cs)))
  have k2 := same_new nc (.lst (iv cs)) _ _ hms
  have c2 : upd H1 c (.lst (iv cs)) c = some (.lst (iv cs)) := upd_same
  generalize upd H1 c (.lst (iv cs)) = H2 at *
  refine ⟨c, rfl, ⟨_, SqL.of c2⟩, fun r nr => comp_listF (Q := fun x H1 => gName 3 x _ H1 _) (K := K) (a := c) (xs := iv cs) (fun i H3 => Same H2 H3 ∧ ∃ ys, H3 r = some (.lst (iv ys)) ∧ ys.length = i ∧ Fg ys) ⟨same_new nr _, [], upd_same, rfl, fun y hy => (nomatch hy)⟩
    (fun i H3 _ h => SqL.of (h.1 _ _ c2)) ?_ ?_⟩
  · rintro i x H3 hx ⟨sm3, ys, h3, hy, hb⟩
    obtain ⟨z, hz, rfl⟩ := ints_get hx
    have hi := get_lt hz
    have z1 := Int.emod_nonneg z (show ((ms.length : Nat) : Int) ≠ 0 by omega)
    have z2 := Int.emod_lt_of_pos z (show (0 : Int) < ((ms.length : Nat) : Int) by omega)
    have hat := atI_ints z1 z2
    refine ⟨_, rfl, _, rfl, _, rfl, mm, _, rfl, .inl (SqL.of (sm3 _ _ k2)), ?_⟩
    rw [ints_len]
    refine ⟨_, _, rfl, rfl, (by show (0 : Int) < ((ms.length : Nat) : Int); omega), mm, _, _, _, rfl, rfl, SqL.of (sm3 _ _ k2), hat, ?_⟩
    refine ⟨iv ys, h3, small1000 (by rw [ints_len]; omega), same_upd nr sm3 _, ys ++ [_], by rw [upd_same, ← ints_app]; rfl, by rw [List.length_append, hy]; rfl, fun y hyy => ?_⟩
    rcases List.mem_append.mp hyy with hyy | hyy
    · exact hb y hyy
    · rw [List.mem_singleton.mp hyy]
      refine hfg _ ?_
      rw [List.getD_eq_getElem?_getD, List.getElem?_eq_getElem (show (z % ((ms.length : Nat) : Int)).toNat < ms.length by omega)]
      exact List.getElem_mem _
  rintro H3 ⟨sm3, ys, h3, hy, hb⟩
  rw [ints_len] at hy
  have S3 := s2.trans sm3
  have nr3 := s2.free nr
  clear nr c2 k2 s2 nc ec hms hm1 hm2 hfg sm3 s1
  walk_at "sq"
  refine st_if (by walk_at "pu") (fun e => ?_) (fun e => ?_)
  · walk_at "sq"
    refine ⟨_, rfl, a, ns, 1, rfl, S3.seq hS, by decide, fun v1 => ?_⟩
    obtain ⟨k, ek⟩ : ∃ k : Nat, v1 / 600 % (((ys.length : Nat) : Int) + 1) = (k : Int) := ⟨(v1 / 600 % (((ys.length : Nat) : Int) + 1)).toNat, by have := Int.emod_nonneg (v1 / 600) (show (((ys.length : Nat) : Int) + 1) ≠ 0 by omega); omega⟩
    walk_at "sq"
    refine st_set (v := .int (k : Nat)) (by rw [← ek]; exact pu_I (g := fun i j => .int (i % j)) (by walk_at "pu") (by rw [← ints_len ys]; walk_at "pu") (by show (0 : Int) < ((ys.length : Nat) : Int) + 1; omega)) ?_
    have m1 := Int.emod_nonneg v1 (show (2 : Int) ≠ 0 by decide)
    have m2 := Int.emod_lt_of_pos v1 (show (0 : Int) < 2 by decide)
    have n1 := Int.emod_nonneg (v1 / 2) (show (300 : Int) ≠ 0 by decide)
    have n2 := Int.emod_lt_of_pos (v1 / 2) (show (0 : Int) < 300 by decide)
    walk_at "sq"
    refine st_mk (fs := ys.take k ++ List.replicate (v1 / 2 % 300).toNat (v1 % 2) ++ ys.drop k) (mk_cat (mk_cat (mk_sl (K := K) (fs := ys) (gs := ys.take k) (ls_var rfl h3) (fun _ _ => po_c0) (po_c1 fun _ => by walk_at "pu") (by rw [cut_to, ints_take])).ls
      (mk_rep (c := v1 % 2) (k := v1 / 2 % 300) (mk_lst (fs := [v1 % 2]) (fun _ => pu_cons (by walk_at "pu") pu_nil) (by show 1 ≤ 100000; decide)).ls (fun _ => by walk_at "pu") (by omega) (by omega)).ls (by simp; omega)).ls
      (mk_sl (K := K) (fs := ys) (gs := ys.drop k) (ls_var rfl h3) (po_c1 fun _ => by walk_at "pu") (fun _ _ => po_c0) (by rw [cut_from, ints_drop])).ls (by simp; omega)) fun x H4 n4 s4 h4 => ?_
    have fg : Fg (ys.take k ++ List.replicate (v1 / 2 % 300).toNat (v1 % 2) ++ ys.drop k) := fun y hy => by
      rcases List.mem_append.mp hy with hy | hy
      · rcases List.mem_append.mp hy with hy | hy
        · exact hb y (List.mem_of_mem_take hy)
        · rw [List.eq_of_mem_replicate hy]; omega
      · exact hb y (List.mem_of_mem_drop hy)
    have hln : (ys.take k ++ List.replicate (v1 / 2 % 300).toNat (v1 % 2) ++ ys.drop k).length ≤ 400 := by simp; omega
    generalize ys.take k ++ List.replicate (v1 / 2 % 300).toNat (v1 % 2) ++ ys.drop k = zs at *
    walk_at "sq"
    exact ⟨_, rfl, x, zs, rfl, SqL.of h4, by omega, fg, fun r2 fs H5 n5 s5 h5 l5 c5 => q r2 fs H5 ((S3.trans s4).free n5) ((S3.trans s4).trans s5) h5 (by omega) c5⟩
  · walk_at "sq"
    exact ⟨_, rfl, r, ys, rfl, SqL.of h3, by omega, hb, fun r2 fs H5 n5 s5 h5 l5 c5 => q r2 fs H5 (S3.free n5) (S3.trans s5) h5 (by omega) c5⟩
theorem ok_text (T : Txt K mg t) : FnOk P w K mg base CX0 1 t.a_law_text t.d_law_text ["_law_row_here"] (sp_text K) := by
  refine T.f_law_text.fn.ok sc_law_text (fun vs H Q E h => ?_) (fun cdv A outer s H vs Q E hr h => ?_)
  · obtain ⟨a, ns, rfl, _⟩ := h
    rfl
  obtain ⟨a, ns, rfl, hS, hl, hc, q⟩ := h
  have hall := calm_figs hc
  refine ⟨_, (pss_cons (ps_if (pt_cmpR (op_eqL hr.units) (pv 0) (pe_lst pa_nil) (nomark _)) (pss_one (ps_ret pe_str)) pss_nil)
    (pss_one (ps_ret (pe_bm PySem.F.plainAttrs_str PySem.F.slot_str_join PySem.F.type_str_join mt_join pe_str (pa_cons (pe_comp (N := ["_law_figure"]) rfl (by decide +kernel) (by decide +kernel) rfl (by decide +kernel) (pi_list (pe_rev (pv 0) (po_some (pe_un un_neg pe_int)))) (fun _ _ _ _ => (pg_name (i := 0) (show List.Nodup (["_law_figure"] : List Str) by decide +kernel) rfl (Or.inl rfl))) (fun _ _ _ _ => (pe_ix ix_str pe_str (pe_op op_add (pv 0) pe_int) (fun _ _ => rfl)))) pa_nil))))), ?_⟩
  walk_at "sq"
  refine st_ifQ ⟨_, rfl, Nat.zero_le _, fun e he => ⟨a, e, ns, [], rfl, rfl, (same_new he _).seq hS, SqL.of upd_same, _, rfl, ?_⟩⟩
  have s1 := same_new he (.lst [])
  have S1 := s1.seq hS
  generalize upd H e (.lst []) = H1 at *
  by_cases c : ns = []
  · refine iteC (decT c) ?_
    subst c
    walk_at "sq"
    exact st_ret (pu_cs zero_is) (q H1 s1)
  · refine iteD (decF c) ?_
    have et : textF ns = (ns.map cod).reverse := by unfold textF; rw [if_neg c]
    rw [et] at q
    walk_at "sq"
    refine ⟨rfl, _, rfl, _, rfl, _, rfl, rfl, a, _, rfl, S1, fun p hp => ⟨p, rfl, ⟨_, SqL.of upd_same⟩, fun r hr0 => ?_⟩⟩
    have s2 := s1.trans (same_new hp (.lst (iv ns).reverse))
    have h2 : upd H1 p (.lst (iv ns).reverse) p = some (.lst (iv ns.reverse)) := by rw [upd_same, ints_rev]
    generalize upd H1 p (.lst (iv ns).reverse) = H2 at *
    refine comp_list (g := gName 0) (n := 1) (Q := fun x H1 => rJoin K (.str "") [x] H1 Q) (K := K) (a := p) (xs := iv ns.reverse) (fun i H3 => Same H2 H3 ∧ H3 r = some (.lst (sg1 ((ns.map cod).reverse.take i)))) ⟨same_new hr0 _, upd_same⟩ (fun i H3 _ h => SqL.of (h.1 _ _ h2)) ?_ ?_
    · rintro i x H3 hx ⟨sm, h3⟩
      obtain ⟨z, hz, rfl⟩ := ints_get hx
      have hi := get_lt hz
      rw [List.length_reverse] at hi
      have hzf := hall z (List.mem_reverse.mp (List.mem_of_getElem? hz))
      have hn : (ns.map cod).reverse[i]? = some (cod z) := by
        rw [← List.map_reverse, List.getElem?_map, hz]
        rfl
      refine ⟨_, rfl, _, _, rfl, rfl, _, _, cod z, rfl, rfl, small (by decide), at4 hzf, _, h3, bigL (by rw [sg1_len, List.length_take]; omega), same_upd hr0 sm _, ?_⟩
      rw [upd_same, take_at hn]
      exact congrArg (fun l => some (HO.lst l)) (sg1_snoc _ _)
    · rintro H3 ⟨sm, h3⟩
      rw [ints_len, List.length_reverse, List.take_of_length_le (by simp)] at h3
      exact ⟨_, r, _, rfl, emp_cps, rfl, SqL.of h3, by simp; omega, q H3 (s2.trans sm)⟩
theorem ok_due (T : Txt K mg t) (G_law_calm : FnOk P w K mg base CX0 1 t.a_law_calm t.d_law_calm ["_law_row_here"] (sp_lcalm K)) : FnOk P w K mg base CX0 2 t.a_law_due t.d_law_due ["_law_line"] (sp_due K) := by
  refine T.f_law_due.fn.ok sc_law_due (fun vs H Q E h => ?_) (fun cdv A outer s H vs Q E hr h => ?_)
  · obtain ⟨cs, rfl, _⟩ := h
    rfl
  obtain ⟨cs, rfl, hl, q0, q1⟩ := h
  refine ⟨_, (pss_cons (ps_if (pt_cmpR op_eq (pv 0) pe_str (nomark _)) (pss_one (ps_ret (pe_lst pa_nil))) pss_nil)
    (pss_cons (ps_set (i := 1) sc_law_due.nd rfl (Or.inl rfl) (pe_lst pa_nil))
    (pss_cons (ps_for PassesOwn.never rfl (pi_str (pe_revS (pv 0) (po_some (pe_un un_neg pe_int)))) (pg_name (i := 2) sc_law_due.nd rfl (Or.inl rfl)) (pss_cons (ps_set (i := 3) sc_law_due.nd rfl (Or.inl rfl) (pe_op op_sub (pe_bm PySem.F.plainAttrs_str PySem.F.slot_str_find PySem.F.type_str_find mt_find pe_str (pa_cons (pv 2) pa_nil)) pe_int))
    (pss_cons (ps_if (pt_cmpR op_eq (pv 3) (pe_un un_neg pe_int) (nomark _)) (pss_one (ps_ret pe_non)) pss_nil)
    (pss_one (ps_expr (pe_bm PySem.F.plainAttrs_list PySem.F.slot_list_append PySem.F.type_list_append mt_append (pv 1) (pa_cons (pv 3) pa_nil)))))))
    (pss_cons (ps_if (PW.pt (pw_or (pt_cmpR (op_eqL hr.units) (pv 1) (pe_lst pa_nil) (nomark _)) (pw_or1 (pt_not (pt_val (pe_call G_law_calm (hr.mono (by decide)) rfl T.f_law_calm.mg T.f_law_calm.fn.kp T.f_law_calm.bd .nil pass0 (pa_cons (pv 1) pa_nil))))))) (pss_one (ps_ret pe_non)) pss_nil)
    (pss_one (ps_ret (pv 1))))))), ?_⟩
  walk_at "sq"
  refine st_if (b := decide (cs = [48])) (pu_test (pu_eqS (ds := [48]) (pu_var rfl) (pu_cs zero_is))) (fun e => ?_) (fun e => ?_)
  · have e0 := of_decide_eq_true e
    walk_at "sq"
    exact ⟨Nat.zero_le _, fun p hp => q0 [] (by rw [e0]; rfl) p _ hp (same_new hp _) upd_same⟩
  have e0 := of_decide_eq_false e
  have er : readF cs = (dgs cs.reverse).bind fun ys => if ys = [] then none else if calmF ys = true then some ys else none := by unfold readF; rw [if_neg e0]
  walk_at "sq"
  refine st_new fun r nr => ?_
  walk_at "sq"
  refine ⟨_, rfl, _, rfl, _, rfl, rfl, _, rfl, big (by show cs.length ≤ 100000; omega), _, rfl, for_sg (cs := cs.reverse) (fun i σ H2 => ∃ f g ys, σ = [some (.str (tx cs)), some (.ref r), f, g] ∧ Same H H2 ∧ H2 r = some (.lst (iv ys)) ∧ dgs (cs.reverse.take i) = some ys) ⟨none, none, [], rfl, same_new nr _, upd_same, rfl⟩ ?_ ?_⟩
  · rintro i c σ H2 hc ⟨f, g, ys, rfl, sm, h2, hd⟩
    have hi := get_lt hc
    rw [List.length_reverse] at hi
    walk_at "sq"
    refine st_te ⟨rfl, _, rfl, _, _, rfl, rfl, _, _, rfl, rfl, ?_⟩
    rw [find4]
    cases hg : dg c with
    | none =>
      walk_at "sq"
      refine st_if (b := true) (pu_test (pu_eqI (i := -2) (j := -2) (pu_var rfl) (by walk_at "pu"))) (fun _ => ?_) (fun z => by cases z)
      walk_at "sq"
      exact st_ret pu_c (q1 (by rw [er, dgs_none hc hg]; rfl) H2 sm)
    | some z =>
      have hln := dgs_len hd
      rw [List.length_take] at hln
      have hz := dg_fig hg
      walk_at "sq"
      refine st_if (b := decide (z + 1 - 1 = -2)) (pu_test (pu_eqI (pu_var rfl) (by walk_at "pu"))) (fun z => by have := of_decide_eq_true z; omega) (fun _ => ?_)
      have e1 : z + 1 - 1 = z := by omega
      walk_at "sq"
      refine st_append (K := K) (l := r) (y := .int (z + 1 - 1)) (by walk_at "pu") (pu_var rfl) h2 (by rw [ints_len]; omega) ?_
      rw [e1]
      exact ⟨_, _, ys ++ [z], rfl, same_upd nr sm _, by rw [upd_same, ← ints_app]; rfl, by rw [take_at hc]; exact dgs_snoc hd hg⟩
  · rintro σ H2 ⟨f, g, ys, rfl, sm, h2, hd⟩
    rw [List.take_length] at hd
    have er2 : readF cs = if ys = [] then none else if calmF ys = true then some ys else none := by rw [er, hd]; rfl
    walk_at "sq"
    refine st_ifQ ⟨_, rfl, Nat.zero_le _, fun e he => ⟨r, e, ys, [], rfl, rfl, (same_new he _).seq (SqL.of h2), SqL.of upd_same, _, rfl, ?_⟩⟩
    have s3 := sm.trans (same_new he (.lst []))
    have h3 := same_new he (.lst []) _ _ h2
    generalize upd H2 e (.lst []) = H3 at *
    by_cases c : ys = []
    · refine iteC (decT c) (iteT ?_)
      walk_at "sq"
      exact st_ret pu_c (q1 (by rw [er2, if_pos c]) H3 s3)
    · refine iteD (decF c) ⟨_, rfl, r, ys, rfl, SqL.of h3, fun H4 s4 => ⟨_, rfl, ?_⟩⟩
      rw [if_neg c] at er2
      cases hc : calmF ys
      · refine iteT ?_
        walk_at "sq"
        exact st_ret pu_c (q1 (by rw [er2, hc]; rfl) H4 (s3.trans s4))
      · refine iteF ?_
        walk_at "sq"
        exact st_ret (by walk_at "pu") (q0 ys (by rw [er2, hc]; rfl) r H4 nr (s3.trans s4) (s4 _ _ h3))
theorem ok_sign (T : Txt K mg t) : FnOk P w K mg base CX0 1 t.a_law_sign_by t.d_law_sign_by ["_law_cell"] sp_sign := by
  refine T.f_law_sign_by.fn.ok sc_law_sign_by (fun vs H Q E h => ?_) (fun cdv A outer s H vs Q E hr h => ?_)
  · obtain ⟨k, rfl, _⟩ := h
    rfl
  obtain ⟨k, rfl, q⟩ := h
  refine ⟨_, (pss_cons (ps_set (i := 1) sc_law_sign_by.nd rfl (Or.inl rfl) pe_str)
    (pss_cons (ps_set (i := 1) sc_law_sign_by.nd rfl (Or.inl rfl) (pe_op op_add_str (pv 1) pe_str))
    (pss_cons (ps_if (pt_cmpR op_eq (pe_op op_mod (pv 0) pe_int) pe_int (nomark _)) (pss_one (ps_ret (pe_ix ix_str pe_str (pe_op op_mod (pe_op op_fdiv (pv 0) pe_int) pe_int) (fun _ _ => rfl)))) pss_nil)
    (pss_one (ps_ret (pe_ix ix_str (pv 1) (pe_op op_mod (pe_op op_fdiv (pv 0) pe_int) pe_int) (fun _ _ => rfl))))))), ?_⟩
  walk_at "sq"
  refine st_set pu_c ?_
  walk_at "sq"
  refine st_teop ⟨_, rfl, _, _, rfl, rfl, small (Nat.le_of_ble_eq_true (by decide +kernel)), ?_⟩
  have m1 := Int.emod_nonneg (k / 2) (show (4 : Int) ≠ 0 by decide)
  have m2 := Int.emod_lt_of_pos (k / 2) (show (0 : Int) < 4 by decide)
  have n1 := Int.emod_nonneg (k / 2) (show (96 : Int) ≠ 0 by decide)
  have n2 := Int.emod_lt_of_pos (k / 2) (show (0 : Int) < 96 by decide)
  walk_at "sq"
  refine st_if (by walk_at "pu") (fun _ => ?_) (fun _ => ?_)
  · walk_at "sq"
    exact st_retx (tx_ix (m := 4) pu_c (by walk_at "pu") (by decide +kernel) (by decide) m1 m2) q
  · walk_at "sq"
    exact st_retx (tx_ix (m := 96) (pu_var rfl) (by walk_at "pu") (by decide +kernel) (by decide) n1 n2) q
abbrev L12 : List Str := ["", "0", "00", "-0", "--", "22", "1 ", " 1", "+1", "-1", "1\n", "01"]
theorem ok_spoiled (T : Txt K mg t) : FnOk P w K mg base CX0 1 t.a_law_spoiled t.d_law_spoiled ["_law_line", "_law_way", "_law_sign", "_law_cell"] sp_spoiled := by
  refine T.f_law_spoiled.fn.ok sc_law_spoiled (fun vs H Q E h => ?_) (fun cdv A outer s H vs Q E hr h => ?_)
  · obtain ⟨x, y, k, c, rfl, _⟩ := h
    rfl
  obtain ⟨x, y, k, c, rfl, hx0, hx, hy, q⟩ := h
  have qq : ∀ z : Str, z.length ≤ 5000 → Q (.str z) H := fun z hz => q z H hz (Same.refl _)
  have c1 := Int.emod_nonneg c (show ((x.length : Nat) : Int) ≠ 0 by omega)
  have c2 := Int.emod_lt_of_pos c (show (0 : Int) < ((x.length : Nat) : Int) by omega)
  refine ⟨_, (pss_cons (ps_set (i := 4) sc_law_spoiled.nd rfl (Or.inl rfl) (pe_op op_mod (pv 3) (pe_callB call_len_str rfl T.b_len PySem.boot_len (pa_cons (pv 0) pa_nil))))
    (pss_cons (ps_if (pt_cmpR op_eq (pv 1) pe_int (nomark _)) (pss_cons (ps_set (i := 4) sc_law_spoiled.nd rfl (Or.inl rfl) (pe_op op_mod (pv 3) (pe_op op_add (pe_callB call_len_str rfl T.b_len PySem.boot_len (pa_cons (pv 0) pa_nil)) pe_int)))
    (pss_one (ps_ret (pe_op op_add_str (pe_op op_add_str (pe_slice sl_str (pv 0) po_none (po_some (pv 4))) (pv 2)) (pe_slice sl_str (pv 0) (po_some (pv 4)) po_none))))) pss_nil)
    (pss_cons (ps_if (pt_cmpR op_eq (pv 1) pe_int (nomark _)) (pss_one (ps_ret (pe_op op_add_str (pe_op op_add_str (pe_slice sl_str (pv 0) po_none (po_some (pv 4))) (pv 2)) (pe_slice sl_str (pv 0) (po_some (pe_op op_add (pv 4) pe_int)) po_none)))) pss_nil)
    (pss_cons (ps_if (pt_cmpR op_eq (pv 1) pe_int (nomark _)) (pss_one (ps_ret (pe_op op_add_str (pe_slice sl_str (pv 0) po_none (po_some (pv 4))) (pe_slice sl_str (pv 0) (po_some (pe_op op_add (pv 4) pe_int)) po_none)))) pss_nil)
    (pss_cons (ps_if (pt_cmpR op_eq (pv 1) pe_int (nomark _)) (pss_cons (ps_set (i := 5) sc_law_spoiled.nd rfl (Or.inl rfl) (pe_slice sl_str (pv 0) (po_some (pe_op op_add (pv 4) pe_int)) (po_some (pe_op op_add (pv 4) pe_int))))
    (pss_one (ps_ret (pe_op op_add_str (pe_op op_add_str (pe_op op_add_str (pe_slice sl_str (pv 0) po_none (po_some (pv 4))) (pv 5)) (pe_slice sl_str (pv 0) (po_some (pv 4)) (po_some (pe_op op_add (pv 4) pe_int)))) (pe_slice sl_str (pv 0) (po_some (pe_op op_add (pv 4) pe_int)) po_none))))) pss_nil)
    (pss_cons (ps_if (pt_cmpR op_eq (pv 1) pe_int (nomark _)) (pss_one (ps_ret (pe_op op_add_str (pe_op op_add_str (pe_slice sl_str (pv 0) po_none (po_some (pv 4))) (pe_ix ix_str (pv 0) (pv 4) (fun _ _ => rfl))) (pe_slice sl_str (pv 0) (po_some (pv 4)) po_none)))) pss_nil)
    (pss_cons (ps_if (pt_cmpR op_eq (pv 1) pe_int (nomark _)) (pss_one (ps_ret (pe_op op_add_str pe_str (pv 0)))) pss_nil)
    (pss_cons (psi_un (psi_if (pt_cmpR op_eq (pv 1) pe_int (nomark _)) (pssi_cons (ps_setI (i := 6) sc_law_spoiled.nd rfl (Or.inl rfl) (pei_litS (xs := ["", "0", "00", "-0", "--", "22", "1 ", " 1", "+1", "-1", "1\n", "01"]) rfl (by decide))) (pssi_one (psi (ps_ret (pe_ix ix_list (pv 6) (pe_op op_mod (pv 3) pe_int) (fun _ _ => rfl)))))) (pssi pss_nil)))
    (pss_one (ps_ret (pv 0))))))))))), ?_⟩
  walk_at "sq"
  refine st_set (v := .int (c % ((x.length : Nat) : Int))) (pu_I (g := fun i j => .int (i % j)) (pu_var rfl) (pu_lenS (pu_var rfl) (by omega)) (by show (0 : Int) < ((x.length : Nat) : Int); omega)) ?_
  generalize c % ((x.length : Nat) : Int) = m at *
  walk_at "sq"
  refine st_if (by walk_at "pu") (fun _ => ?_) (fun _ => ?_)
  · walk_at "sq"
    refine st_set (v := .int (c % (((x.length : Nat) : Int) + 1))) (pu_I (g := fun i j => .int (i % j)) (pu_var rfl) (pu_I0 (g := fun i j => .int (i + j)) (pu_lenS (pu_var rfl) (by omega)) pu_c) (by show (0 : Int) < ((x.length : Nat) : Int) + 1; omega)) ?_
    walk_at "sq"
    exact st_retx (n := 500 + 1 + 500) (tx_add (tx_add (tx_sl (pu_var rfl) hx (by decide) (fun _ => po_c0) (po_c1 (fun _ => by walk_at "pu") H)) (tx_pu (pu_var rfl) hy) (by decide)) (tx_sl (pu_var rfl) hx (by decide) (po_c1 (fun _ => by walk_at "pu") H) (fun _ => po_c0)) (by decide)) (fun z hz => qq z (Nat.le_trans hz (by decide)))
  walk_at "sq"
  refine st_if (by walk_at "pu") (fun _ => ?_) (fun _ => ?_)
  · walk_at "sq"
    exact st_retx (n := 500 + 1 + 500) (tx_add (tx_add (tx_sl (pu_var rfl) hx (by decide) (fun _ => po_c0) (po_c1 (fun _ => by walk_at "pu") H)) (tx_pu (pu_var rfl) hy) (by decide)) (tx_sl (pu_var rfl) hx (by decide) (po_c1 (fun _ => by walk_at "pu") H) (fun _ => po_c0)) (by decide)) (fun z hz => qq z (Nat.le_trans hz (by decide)))
  walk_at "sq"
  refine st_if (by walk_at "pu") (fun _ => ?_) (fun _ => ?_)
  · walk_at "sq"
    exact st_retx (n := 500 + 500) (tx_add (tx_sl (pu_var rfl) hx (by decide) (fun _ => po_c0) (po_c1 (fun _ => by walk_at "pu") H)) (tx_sl (pu_var rfl) hx (by decide) (po_c1 (fun _ => by walk_at "pu") H) (fun _ => po_c0)) (by decide)) (fun z hz => qq z (Nat.le_trans hz (by decide)))
  walk_at "sq"
  refine st_if (by walk_at "pu") (fun _ => ?_) (fun _ => ?_)
  · walk_at "sq"
    refine st_setx (n := 500) (tx_sl (pu_var rfl) hx (by decide) (po_c1 (fun _ => by walk_at "pu") H) (po_c1 (fun _ => by walk_at "pu") H)) fun z hz => ?_
    walk_at "sq"
    exact st_retx (n := 500 + 500 + 500 + 500) (tx_add (tx_add (tx_add (tx_sl (pu_var rfl) hx (by decide) (fun _ => po_c0) (po_c1 (fun _ => by walk_at "pu") H)) (tx_pu (pu_var rfl) hz) (by decide)) (tx_sl (pu_var rfl) hx (by decide) (po_c1 (fun _ => by walk_at "pu") H) (po_c1 (fun _ => by walk_at "pu") H)) (by decide))
      (tx_sl (pu_var rfl) hx (by decide) (po_c1 (fun _ => by walk_at "pu") H) (fun _ => po_c0)) (by decide)) (fun z hz => qq z (Nat.le_trans hz (by decide)))
  walk_at "sq"
  refine st_if (by walk_at "pu") (fun _ => ?_) (fun _ => ?_)
  · walk_at "sq"
    exact st_retx (n := 500 + 1 + 500) (tx_add (tx_add (tx_sl (pu_var rfl) hx (by decide) (fun _ => po_c0) (po_c1 (fun _ => by walk_at "pu") H)) (tx_ix (m := x.length) (pu_var rfl) (pu_var rfl) rfl (by omega) c1 c2) (by decide)) (tx_sl (pu_var rfl) hx (by decide) (po_c1 (fun _ => by walk_at "pu") H) (fun _ => po_c0)) (by decide)) (fun z hz => qq z (Nat.le_trans hz (by decide)))
  walk_at "sq"
  refine st_if (by walk_at "pu") (fun _ => ?_) (fun _ => ?_)
  · walk_at "sq"
    exact st_retx (n := 1 + 500) (tx_add (tx_pu pu_c (Nat.le_of_ble_eq_true (by decide +kernel))) (tx_pu (pu_var rfl) hx) (by decide)) (fun z hz => qq z (Nat.le_trans hz (by decide)))
  walk_at "sq"
  refine st_if (by walk_at "pu") (fun _ => ?_) (fun _ => ?_)
  · walk_at "sq"
    refine st_te fun l nl => ?_
    have d1 := Int.emod_nonneg c (show (12 : Int) ≠ 0 by decide)
    have d2 := Int.emod_lt_of_pos c (show (0 : Int) < 12 by decide)
    have hk : (c % 12).toNat < L12.length := by show (c % 12).toNat < 12; omega
    have hv : atI (L12.map V.str) (c % 12) = some (.str (L12[(c % 12).toNat]'hk)) := by
      have e : c % 12 = (((c % 12).toNat : Nat) : Int) := by omega
      have q2 : atI (L12.map V.str) (((c % 12).toNat : Nat) : Int) = some (.str (L12[(c % 12).toNat]'hk)) := atI_nat (by rw [List.getElem?_map, List.getElem?_eq_getElem hk]; rfl)
      rw [← e] at q2
      exact q2
    have hz : ∀ z ∈ L12, z.length ≤ 5 := by decide +kernel
    walk_at "sq"
    exact st_ret (pu_ix (K := K) (pu_var rfl) (by walk_at "pu") (SqL.of upd_same) hv) (q _ _ (Nat.le_trans (hz _ (List.getElem_mem hk)) (by decide)) (same_new nl _))
  · walk_at "sq"
    exact st_ret (by walk_at "pu") (qq x (by omega))
theorem ok_isrow (T : Txt K mg t) (G_law_whole : FnOk P w K mg base CX0 1 t.a_law_whole t.d_law_whole ["_law_found"] sp_lwhole) : FnOk P w K mg base CX0 2 t.a_law_is_row t.d_law_is_row ["_law_found", "_law_due_here"] (sp_isrow K) := by
  refine T.f_law_is_row.fn.ok sc_law_is_row (fun vs H Q E h => ?_) (fun cdv A outer s H vs Q E hr h => ?_)
  · obtain ⟨a, b, ns, rfl, _⟩ := h
    rfl
  obtain ⟨a, b, ns, rfl, h1, h2, q⟩ := h
  refine ⟨_, (pss_cons (ps_if (PW.pt (pw_or (pt_not (pt_val (pe_callB call_isin rfl T.b_isinstance boot_isin (pa_cons (pv 0) (pa_cons (pe_bltn (v := .ty "list") rfl T.b_list PyProof.Rows.boot_list rfl) pa_nil))))) (pw_or1 (pt_cmpR (op_neL hr.units) (pv 0) (pv 1) (nomark _))))) (pss_one (ps_ret pe_bl)) pss_nil)
    (pss_cons (ps_for PassesOwn.never rfl (pi_list (pv 0)) (pg_name (i := 2) sc_law_is_row.nd rfl (Or.inl rfl)) (pss_one (ps_if (pt_not (pt_val (pe_call G_law_whole (hr.mono (by decide)) rfl T.f_law_whole.mg T.f_law_whole.fn.kp T.f_law_whole.bd .nil pass0 (pa_cons (pv 2) pa_nil)))) (pss_one (ps_ret pe_bl)) pss_nil)))
    (pss_one (ps_ret pe_bl)))), ?_⟩
  walk_at "sq"
  refine st_if (b := (!true) || (!decide (ns = ns))) (pt_or' (pt_not' (pu_tB (pu_isin (K := K) (pu_var rfl) pu_c (TyOf.lst h1) (kit_list_list K)))) (fun _ => pu_test (pu_neL (K := K) (pu_var rfl) (pu_var rfl) (SqL.of h1) h2))) (fun e => by rw [decide_eq_true rfl] at e; cases e) (fun _ => ?_)
  walk_at "sq"
  refine st_for (K := K) (a := a) (xs := iv ns) (by walk_at "pu") (SqL.of h1) (fun i σ H2 => H2 = H ∧ ∃ f, σ = [some (.ref a), some (.ref b), f]) ⟨rfl, none, rfl⟩ (fun i σ H2 _ ⟨e, _⟩ => by rw [e]; exact SqL.of h1) ?_ ?_
  · rintro i x σ H2 hx ⟨rfl, f, rfl⟩
    obtain ⟨z, hz, rfl⟩ := ints_get hx
    walk_at "sq"
    refine st_if (b := !true) (pt_not' (pu_tB (pu_call (sp := sp_lwhole) (pu_cons (pu_var rfl) pu_nil) (fun Q q => ⟨z, rfl, q⟩)))) (fun e => by cases e) (fun _ => ?_)
    exact ⟨rfl, _, rfl⟩
  · rintro σ H2 ⟨rfl, f, rfl⟩
    walk_at "sq"
    exact st_ret pu_c q
theorem ok_refused (T : Txt K mg t) (G_read : FnOk P w K mg base (CX1 P w) 4 t.a_read t.d_read ["text"] (sp_read t.c_NoText)) : FnOk P w K mg base CX0 5 t.a_law_refused t.d_law_refused ["_law_line"] sp_refused := by
  refine T.f_law_refused.fn.ok sc_law_refused (fun vs H Q E h => ?_) (fun cdv A outer s H vs Q E hr h => ?_)
  · obtain ⟨cs, rfl, _⟩ := h
    rfl
  obtain ⟨cs, rfl, hl, hn, q⟩ := h
  refine ⟨_, (pss_cons (ps_set (i := 1) sc_law_refused.nd rfl (Or.inl rfl) pe_bl)
    (pss_cons (ps_try0 rfl rfl rfl rfl (fun pins σ xe E hx => (pss_oneAt (ps_exprAt (pe_callAt G_read (hr.mono (by decide)) rfl T.f_read.mg T.f_read.fn.kp T.f_read.bd .nil hx (pa_cons (pv 0) pa_nil))))) T.e_NoText rfl (fun _ => (pss_one (ps_set (i := 1) sc_law_refused.nd rfl (Or.inl rfl) pe_bl))))
    (pss_cons (ps_set (i := 2) sc_law_refused.nd rfl (Or.inl rfl) (pe_lst pa_nil))
    (pss_cons (ps_tryAs (i := 3) rfl rfl rfl rfl (fun pins σ xe E hx => (pss_oneAt (ps_exprAt (pe_callAt G_read (hr.mono (by decide)) rfl T.f_read.mg T.f_read.fn.kp T.f_read.bd .nil hx (pa_cons (pv 0) pa_nil))))) T.e_CountError rfl (fun _ => (pss_cons (ps_set (i := 2) sc_law_refused.nd rfl (Or.inl rfl) (pe_lst (pa_cons (pe_callB (call_isinEK (K := K) rfl) rfl T.b_isinstance boot_isin (pa_cons (pv 3) (pa_cons (pe_glob (v := .ref t.c_NoText) rfl T.e_NoText.gl rfl) pa_nil))) (pa_cons (pe_callB (call_isinEK (K := K) rfl) rfl T.b_isinstance boot_isin (pa_cons (pv 3) (pa_cons (pe_bltn (v := .ty "ValueError") rfl T.b_ValueError PyProof.Rows.Boot.«ValueError» rfl) pa_nil))) pa_nil))))
    (pss_one (ps_set (i := 2) sc_law_refused.nd rfl (Or.inl rfl) (pe_op op_cat (pv 2) (pe_lst (pa_cons (pe_callB (call_isinEK (K := K) rfl) rfl T.b_isinstance boot_isin (pa_cons (pv 3) (pa_cons (pe_glob (v := .ref t.c_NotCalm) rfl T.e_NotCalm.gl rfl) pa_nil))) (pa_cons (pe_callB (call_isinEK (K := K) rfl) rfl T.b_isinstance boot_isin (pa_cons (pv 3) (pa_cons (pe_glob (v := .ref t.c_NoPlace) rfl T.e_NoPlace.gl rfl) pa_nil))) (pa_cons (pe_callB (call_isinEK (K := K) rfl) rfl T.b_isinstance boot_isin (pa_cons (pv 3) (pa_cons (pe_glob (v := .ref t.c_NothingDone) rfl T.e_NothingDone.gl rfl) pa_nil))) pa_nil))))))))) sc_law_refused.nd rfl rfl)
    (pss_one (ps_ret (pe_and (pv 1) (pe_one (pe_cmpR (op_eqD hr.units) (pv 2) (pe_lst (pa_cons pe_bl (pa_cons pe_bl (pa_cons pe_bl (pa_cons pe_bl (pa_cons pe_bl pa_nil)))))) (nomark _)))))))))), ?_⟩
  walk_at "sq"
  refine st_set (v := .bl false) pu_c ?_
  walk_at "sq"
  refine ⟨_, rfl, cs, rfl, hl, fun ys hy => (by rw [hn] at hy; cases hy), fun _ H1 S1 => ⟨t.c_NoText, rfl, T.e_NoText.ok, T.es_NoText_NoText, fun e0 ne0 => ?_⟩⟩
  have S1' := S1.trans (same_new ne0 (excO e0 (.ref t.c_NoText)))
  generalize upd H1 e0 (excO e0 (.ref t.c_NoText)) = H1' at *
  clear ne0 S1
  walk_at "sq"
  refine st_set (v := .bl true) pu_c ?_
  walk_at "sq"
  refine st_new fun td ntd => ?_
  have S2 := S1'.trans (same_new ntd (.lst []))
  generalize upd H1' td (.lst []) = H2 at *
  clear ntd S1'
  walk_at "sq"
  refine ⟨_, rfl, cs, rfl, hl, fun ys hy => (by rw [hn] at hy; cases hy), fun _ H3 S3 => ⟨t.c_NoText, rfl, T.e_NoText.ok, T.es_NoText_CountError, fun e ne => ?_⟩⟩
  have S3' := (S2.trans S3).trans (same_new ne (excO e (.ref t.c_NoText)))
  have he : upd H3 e (excO e (.ref t.c_NoText)) e = some (excO e (.ref t.c_NoText)) := upd_same
  generalize upd H3 e (excO e (.ref t.c_NoText)) = H4 at *
  clear ne S2 S3
  walk_at "sq"
  refine st_lst (vs := [.bl true, .bl true]) (pu_cons (pu_isE rfl he T.x_NoText T.kt_NoText_NoText) (pu_cons (pu_isT rfl he T.x_NoText T.kt_NoText_ValueError) pu_nil)) (by show 2 ≤ 1000; decide) fun l1 n1 => ?_
  have S4 := S3'.trans (same_new n1 (.lst [.bl true, .bl true]))
  have he3 := same_new n1 (.lst [.bl true, .bl true]) _ _ he
  have l3 : upd H4 l1 (.lst [V.bl true, V.bl true]) l1 = some (.lst [V.bl true, V.bl true]) := upd_same
  generalize upd H4 l1 (.lst [V.bl true, V.bl true]) = H5 at *
  clear n1 S3'
  walk_at "sq"
  have pa : PuA (σ := [some (.str (tx cs)), some (.bl true), some (.ref l1), some (.ref e)]) (H := H5) _ [V.bl false, V.bl false, V.bl false] := pu_cons (pu_isE (i := 3) rfl he3 T.x_NoText T.kt_NoText_NotCalm) (pu_cons (pu_isE (i := 3) rfl he3 T.x_NoText T.kt_NoText_NoPlace) (pu_cons (pu_isE (i := 3) rfl he3 T.x_NoText T.kt_NoText_NothingDone) pu_nil))
  walk_at "sq"
  refine st_teop ⟨_, rfl, pa _ ⟨small (by show 3 ≤ 1000; decide), fun l2 n2 => ⟨l1, l2, _, _, rfl, rfl, same_new n2 _ _ _ l3, upd_same, small (by show 5 ≤ 1000; decide), fun l4 n4 => ?_⟩⟩⟩
  have S5 := (S4.trans (same_new n2 (.lst [V.bl false, V.bl false, V.bl false]))).trans (same_new n4 (.lst ([V.bl true, V.bl true] ++ [V.bl false, V.bl false, V.bl false])))
  have h5 : upd (upd H5 l2 (.lst [V.bl false, V.bl false, V.bl false])) l4 (.lst ([V.bl true, V.bl true] ++ [V.bl false, V.bl false, V.bl false])) l4 = some (.lst ([true, true, false, false, false].map V.bl)) := upd_same
  generalize upd (upd H5 l2 (.lst [V.bl false, V.bl false, V.bl false])) l4 (.lst ([V.bl true, V.bl true] ++ [V.bl false, V.bl false, V.bl false])) = H6 at *
  refine ⟨_, rfl, _, rfl, iteT ⟨_, rfl, small (by show 5 ≤ 1000; decide), fun l6 n6 => ?_⟩⟩
  have s6 := same_new n6 (.lst ([true, true, false, false, false].map V.bl))
  refine ⟨dB [true, true, false, false, false], dB [true, true, false, false, false], datR_B (SqL.of (s6 _ _ h5)), datR_B (SqL.of upd_same), shaped_dB _, shaped_dB _, ?_⟩
  rw [eqv_dB, decide_eq_true rfl]
  exact q _ (S5.trans s6)
end
def sp_law (K : PySem.W.Frag) : Sp := fun vs H Q _ => ∃ (a : Addr) (ns : List Int), vs = [.ref a] ∧ SqL K H a (ns.map V.int) ∧ ns.length ≤ 63 ∧ ∀ H', Q (.bl true) H'
section
variable {P : Program} {w : World} {K : PySem.W.Frag} {mg : Str → Option Value} {base : Heap} {t : Adr}
theorem ok_law (T : Txt K mg t) (G_law_row : FnOk P w K mg base CX0 2 t.a_law_row t.d_law_row ["_law_script"] (sp_row K)) (G_law_text : FnOk P w K mg base CX0 1 t.a_law_text t.d_law_text ["_law_row_here"] (sp_text K))
    (G_shown : FnOk P w K mg base (CX1 P w) 5 t.a_shown t.d_shown ["row"] (sp_shown K t.c_NotCalm)) (G_read : FnOk P w K mg base (CX1 P w) 4 t.a_read t.d_read ["text"] (sp_read t.c_NoText))
    (G_law_is_row : FnOk P w K mg base CX0 2 t.a_law_is_row t.d_law_is_row ["_law_found", "_law_due_here"] (sp_isrow K)) (G_law_cell_at : FnOk P w K mg base CX0 1 t.a_law_cell_at t.d_law_cell_at ["_law_script", "_law_k"] (sp_cell K))
    (G_law_sign_by : FnOk P w K mg base CX0 1 t.a_law_sign_by t.d_law_sign_by ["_law_cell"] sp_sign) (G_law_spoiled : FnOk P w K mg base CX0 1 t.a_law_spoiled t.d_law_spoiled ["_law_line", "_law_way", "_law_sign", "_law_cell"] sp_spoiled)
    (G_law_due : FnOk P w K mg base CX0 2 t.a_law_due t.d_law_due ["_law_line"] (sp_due K)) (G_law_refused : FnOk P w K mg base CX0 5 t.a_law_refused t.d_law_refused ["_law_line"] sp_refused) :
    FnOk P w K mg base CX0 6 t.a_law t.d_law ["_law_script"] (sp_law K) := by
  refine T.f_law.fn.ok sc_law (fun vs H Q E h => ?_) (fun cdv A outer s H vs Q E hr h => ?_)
  · obtain ⟨a, ns, rfl, _⟩ := h
    rfl
  obtain ⟨a, ns, rfl, hS, h63, q⟩ := h
  refine ⟨_, (pss_cons (ps_set (i := 1) sc_law.nd rfl (Or.inl rfl) (pe_call G_law_row (hr.mono (by decide)) rfl T.f_law_row.mg T.f_law_row.fn.kp T.f_law_row.bd .nil pass0 (pa_cons (pv 0) pa_nil)))
    (pss_cons (ps_set (i := 2) sc_law.nd rfl (Or.inl rfl) (pe_call G_law_text (hr.mono (by decide)) rfl T.f_law_text.mg T.f_law_text.fn.kp T.f_law_text.bd .nil pass0 (pa_cons (pv 1) pa_nil)))
    (pss_cons (ps_set (i := 3) sc_law.nd rfl (Or.inl rfl) (pe_callTy call_list_of rfl T.b_list PyProof.Rows.boot_list (pa_cons (pv 1) pa_nil)))
    (pss_cons (ps_set (i := 4) sc_law.nd rfl (Or.inl rfl) (pe_call G_shown (hr.mono (by decide)) rfl T.f_shown.mg T.f_shown.fn.kp T.f_shown.bd .nil passN (pa_cons (pv 3) pa_nil)))
    (pss_cons (ps_if (PW.pt (pw_or (pt_not (pt_val (pe_callB call_isin rfl T.b_isinstance boot_isin (pa_cons (pv 4) (pa_cons (pe_bltn (v := .ty "str") rfl T.b_str PyProof.Rows.boot_str rfl) pa_nil))))) (pw_or (pt_cmpR op_ne (pv 4) (pv 2) (nomark _)) (pw_or1 (pt_cmpR (op_neL hr.units) (pv 3) (pv 1) (nomark _)))))) (pss_one (ps_ret pe_bl)) pss_nil)
    (pss_cons (ps_if (pt_not (pt_val (pe_call G_law_is_row (hr.mono (by decide)) rfl T.f_law_is_row.mg T.f_law_is_row.fn.kp T.f_law_is_row.bd .nil pass0 (pa_cons (pe_call G_read (hr.mono (by decide)) rfl T.f_read.mg T.f_read.fn.kp T.f_read.bd .nil passN (pa_cons (pv 2) pa_nil)) (pa_cons (pv 1) pa_nil))))) (pss_one (ps_ret pe_bl)) pss_nil)
    (pss_cons (ps_set (i := 5) sc_law.nd rfl (Or.inl rfl) (pe_call G_law_cell_at (hr.mono (by decide)) rfl T.f_law_cell_at.mg T.f_law_cell_at.fn.kp T.f_law_cell_at.bd .nil pass0 (pa_cons (pv 0) (pa_cons pe_int pa_nil))))
    (pss_cons (ps_set (i := 6) sc_law.nd rfl (Or.inl rfl) (pe_call G_law_sign_by (hr.mono (by decide)) rfl T.f_law_sign_by.mg T.f_law_sign_by.fn.kp T.f_law_sign_by.bd .nil pass0 (pa_cons (pe_op op_fdiv (pv 5) pe_int) pa_nil)))
    (pss_cons (ps_set (i := 2) sc_law.nd rfl (Or.inl rfl) (pe_call G_law_spoiled (hr.mono (by decide)) rfl T.f_law_spoiled.mg T.f_law_spoiled.fn.kp T.f_law_spoiled.bd .nil pass0 (pa_cons (pv 2) (pa_cons (pe_op op_mod (pv 5) pe_int) (pa_cons (pv 6) (pa_cons (pe_call G_law_cell_at (hr.mono (by decide)) rfl T.f_law_cell_at.mg T.f_law_cell_at.fn.kp T.f_law_cell_at.bd .nil pass0 (pa_cons (pv 0) (pa_cons pe_int pa_nil))) pa_nil))))))
    (pss_cons (ps_set (i := 7) sc_law.nd rfl (Or.inl rfl) (pe_call G_law_due (hr.mono (by decide)) rfl T.f_law_due.mg T.f_law_due.fn.kp T.f_law_due.bd .nil pass0 (pa_cons (pv 2) pa_nil)))
    (pss_cons (ps_if (pt_cmpR op_isN (pv 7) pe_non (nomark _)) (pss_one (ps_ret (pe_call G_law_refused (hr.mono (by decide)) rfl T.f_law_refused.mg T.f_law_refused.fn.kp T.f_law_refused.bd .nil pass0 (pa_cons (pv 2) pa_nil)))) pss_nil)
    (pss_cons (ps_set (i := 8) sc_law.nd rfl (Or.inl rfl) (pe_call G_read (hr.mono (by decide)) rfl T.f_read.mg T.f_read.fn.kp T.f_read.bd .nil passN (pa_cons (pv 2) pa_nil)))
    (pss_cons (ps_if (pt_not (pt_val (pe_call G_law_is_row (hr.mono (by decide)) rfl T.f_law_is_row.mg T.f_law_is_row.fn.kp T.f_law_is_row.bd .nil pass0 (pa_cons (pv 8) (pa_cons (pv 7) pa_nil))))) (pss_one (ps_ret pe_bl)) pss_nil)
    (pss_cons (ps_expr (pe_bm PySem.F.plainAttrs_list PySem.F.slot_list_append PySem.F.type_list_append mt_append (pv 8) (pa_cons pe_int pa_nil)))
    (pss_one (ps_ret (pe_call G_law_is_row (hr.mono (by decide)) rfl T.f_law_is_row.mg T.f_law_is_row.fn.kp T.f_law_is_row.bd .nil pass0 (pa_cons (pe_call G_read (hr.mono (by decide)) rfl T.f_read.mg T.f_read.fn.kp T.f_read.bd .nil passN (pa_cons (pv 2) pa_nil)) (pa_cons (pv 7) pa_nil))))))))))))))))))), ?_⟩
  walk_at "sq"
  refine st_te ⟨_, rfl, a, ns, rfl, hS, fun r fs H1 nr s1 h1 lf cf => ?_⟩
  walk_at "sq"
  refine st_te ⟨_, rfl, r, fs, rfl, SqL.of h1, by omega, cf, fun H2 s2 => ?_⟩
  have h2 := s2 _ _ h1
  have S2 := s1.trans s2
  walk_at "sq"
  refine st_copy (K := K) (a := r) (by walk_at "pu") (SqL.of h2) fun hd nh => ?_
  have S3 := S2.trans (same_new nh (.lst (iv fs)))
  have h3 := same_new nh (.lst (iv fs)) _ _ h2
  have d3 : upd H2 hd (.lst (iv fs)) hd = some (.lst (iv fs)) := upd_same
  generalize upd H2 hd (.lst (iv fs)) = H3 at *
  walk_at "sq"
  refine st_te ⟨_, rfl, hd, fs, rfl, SqL.of d3, by omega, fun _ H4 s4 => ?_, fun e => (by rw [cf] at e; cases e)⟩
  have h4 := s4 _ _ h3
  have d4 := s4 _ _ d3
  have S4 := S3.trans s4
  clear S3 h3 d3 s4 s1 s2 h1 h2 S2 nh nr
  walk_at "sq"
  refine st_if (b := (!true) || ((!decide (textF fs = textF fs)) || (!decide (fs = fs)))) (pt_or' (pt_not' (pu_tB (pu_isin (K := K) (pu_var rfl) pu_c (TyOf.str _) (kit_str_str K)))) (fun _ => pt_or' (pu_test (pu_neS (pu_var rfl) (pu_var rfl))) (fun _ => pu_test (pu_neL (K := K) (pu_var rfl) (pu_var rfl) (SqL.of d4) (SqL.of h4))))) (fun e => by rw [decide_eq_true rfl, decide_eq_true rfl] at e; cases e) (fun _ => ?_)
  have tl := text_len fs
  have tn := text_ne fs
  walk_at "sq"
  refine st_ifQ ⟨_, rfl, _, rfl, by omega, fun ys hy r5 H5 n5 s5 h5 => ?_, fun e => (by rw [read_text cf] at e; cases e)⟩
  rw [read_text cf] at hy
  cases hy
  refine ⟨_, rfl, r5, r, fs, rfl, h5, SqL.of (s5 _ _ h4), _, rfl, iteF ?_⟩
  have S5 := S4.trans s5
  clear S4 s5 h5 n5 h4 d4
  walk_at "sq"
  refine st_te ⟨_, rfl, a, ns, 2, rfl, S5.seq hS, by decide, fun v2 => ?_⟩
  walk_at "sq"
  refine st_te ⟨_, rfl, _, _, rfl, rfl, ⟨by decide, by decide⟩, _, rfl, fun y hy => ?_⟩
  walk_at "sq"
  refine st_te ⟨_, rfl, _, rfl, _, _, rfl, rfl, (by show (0 : Int) < 9; decide), _, rfl, _, rfl, a, ns, 3, rfl, S5.seq hS, by decide, fun v3 => ⟨_, y, _, _, rfl, List.length_pos_iff.mpr tn, (by rw [tx_len]; omega), hy, fun z H6 hz s6 => ?_⟩⟩
  obtain ⟨cs, rfl⟩ : ∃ cs, z = tx cs := ⟨_, tx_of z⟩
  rw [tx_len] at hz
  clear S5 s6 hS
  walk_at "sq"
  refine st_te ⟨_, rfl, cs, rfl, by omega, fun ys hd7 r7 H7 n7 s7 h7 => ?_, fun hd7 H7 s7 => ?_⟩
  · walk_at "sq"
    refine st_if (b := false) (pt_isN (pu_var rfl)) (fun e => by cases e) (fun _ => ?_)
    walk_at "sq"
    refine st_te ⟨_, rfl, cs, rfl, by omega, fun ys' hy' r8 H8 n8 s8 h8 => ?_, fun e => (by rw [hd7] at e; cases e)⟩
    rw [hd7] at hy'
    cases hy'
    have ne : r7 ≠ r8 := fun e => by rw [← e, h7] at n8; cases n8
    have hyl := read_len hd7
    have h7' := s8 _ _ h7
    walk_at "sq"
    refine st_ifQ ⟨_, rfl, _, rfl, r8, r7, ys, rfl, h8, SqL.of h7', _, rfl, iteF ?_⟩
    walk_at "sq"
    refine st_append (K := K) (l := r8) (by walk_at "pu") (by walk_at "pu") h8 (by rw [ints_len]; omega) ?_
    have h9 : upd H8 r8 (.lst (iv ys ++ [.int 7])) r7 = some (.lst (iv ys)) := by rw [upd_ne ne]; exact h7'
    generalize upd H8 r8 (.lst (iv ys ++ [.int 7])) = H9 at *
    walk_at "sq"
    refine ⟨_, rfl, cs, rfl, by omega, fun ys' hy' r9 H9' n9 s9 h9' => ?_, fun e => (by rw [hd7] at e; cases e)⟩
    rw [hd7] at hy'
    cases hy'
    exact ⟨_, rfl, r9, r7, ys, rfl, h9', SqL.of (s9 _ _ h9), q _⟩
  · walk_at "sq"
    refine st_if (b := true) (pt_isNT (pu_var rfl)) (fun _ => ?_) (fun e => by cases e)
    walk_at "sq"
    exact ⟨_, rfl, cs, rfl, by omega, hd7, fun H8 s8 => q _⟩
end
theorem txt_mk {K : PySem.W.Frag} {h : Heap} {mg : Str → Option Value} {f_is_whole : Addr} {od_is_whole an_is_whole : Option Addr} {sl_is_whole : Array (Option Value)} {oc_is_whole kV_is_whole dc_is_whole pm_is_whole cd_is_whole ct_is_whole : Value} {f_is_figure : Addr} {od_is_figure an_is_figure : Option Addr} {sl_is_figure : Array (Option Value)} {oc_is_figure kV_is_figure dc_is_figure pm_is_figure cd_is_figure ct_is_figure : Value} {f_twos_are_apart : Addr} {od_twos_are_apart an_twos_are_apart : Option Addr} {sl_twos_are_apart : Array (Option Value)} {oc_twos_are_apart kV_twos_are_apart dc_twos_are_apart pm_twos_are_apart cd_twos_are_apart ct_twos_are_apart : Value} {f_mirrored : Addr} {od_mirrored an_mirrored : Option Addr} {sl_mirrored : Array (Option Value)} {oc_mirrored kV_mirrored dc_mirrored pm_mirrored cd_mirrored ct_mirrored : Value} {f_is_calm : Addr} {od_is_calm an_is_calm : Option Addr} {sl_is_calm : Array (Option Value)} {oc_is_calm kV_is_calm dc_is_calm pm_is_calm cd_is_calm ct_is_calm : Value} {f_refuse_if_not_calm : Addr} {od_refuse_if_not_calm an_refuse_if_not_calm : Option Addr} {sl_refuse_if_not_calm : Array (Option Value)} {oc_refuse_if_not_calm kV_refuse_if_not_calm dc_refuse_if_not_calm pm_refuse_if_not_calm cd_refuse_if_not_calm ct_refuse_if_not_calm : Value} {f_shown : Addr} {od_shown an_shown : Option Addr} {sl_shown : Array (Option Value)} {oc_shown kV_shown dc_shown pm_shown cd_shown ct_shown : Value} {f_figures_of : Addr} {od_figures_of an_figures_of : Option Addr} {sl_figures_of : Array (Option Value)} {oc_figures_of kV_figures_of dc_figures_of pm_figures_of cd_figures_of ct_figures_of : Value} {f_read : Addr} {od_read an_read : Option Addr} {sl_read : Array (Option Value)} {oc_read kV_read dc_read pm_read cd_read ct_read : Value} {f_law_cell_at : Addr} {od_law_cell_at an_law_cell_at : Option Addr} {sl_law_cell_at : Array (Option Value)} {oc_law_cell_at kV_law_cell_at dc_law_cell_at pm_law_cell_at cd_law_cell_at ct_law_cell_at : Value} {f_law_whole : Addr} {od_law_whole an_law_whole : Option Addr} {sl_law_whole : Array (Option Value)} {oc_law_whole kV_law_whole dc_law_whole pm_law_whole cd_law_whole ct_law_whole : Value} {f_law_calm : Addr} {od_law_calm an_law_calm : Option Addr} {sl_law_calm : Array (Option Value)} {oc_law_calm kV_law_calm dc_law_calm pm_law_calm cd_law_calm ct_law_calm : Value} {f_law_made_calm : Addr} {od_law_made_calm an_law_made_calm : Option Addr} {sl_law_made_calm : Array (Option Value)} {oc_law_made_calm kV_law_made_calm dc_law_made_calm pm_law_made_calm cd_law_made_calm ct_law_made_calm : Value} {f_law_row : Addr} {od_law_row an_law_row : Option Addr} {sl_law_row : Array (Option Value)} {oc_law_row kV_law_row dc_law_row pm_law_row cd_law_row ct_law_row : Value} {f_law_text : Addr} {od_law_text an_law_text : Option Addr} {sl_law_text : Array (Option Value)} {oc_law_text kV_law_text dc_law_text pm_law_text cd_law_text ct_law_text : Value} {f_law_due : Addr} {od_law_due an_law_due : Option Addr} {sl_law_due : Array (Option Value)} {oc_law_due kV_law_due dc_law_due pm_law_due cd_law_due ct_law_due : Value} {f_law_sign_by : Addr} {od_law_sign_by an_law_sign_by : Option Addr} {sl_law_sign_by : Array (Option Value)} {oc_law_sign_by kV_law_sign_by dc_law_sign_by pm_law_sign_by cd_law_sign_by ct_law_sign_by : Value} {f_law_spoiled : Addr} {od_law_spoiled an_law_spoiled : Option Addr} {sl_law_spoiled : Array (Option Value)} {oc_law_spoiled kV_law_spoiled dc_law_spoiled pm_law_spoiled cd_law_spoiled ct_law_spoiled : Value} {f_law_is_row : Addr} {od_law_is_row an_law_is_row : Option Addr} {sl_law_is_row : Array (Option Value)} {oc_law_is_row kV_law_is_row dc_law_is_row pm_law_is_row cd_law_is_row ct_law_is_row : Value} {f_law_refused : Addr} {od_law_refused an_law_refused : Option Addr} {sl_law_refused : Array (Option Value)} {oc_law_refused kV_law_refused dc_law_refused pm_law_refused cd_law_refused ct_law_refused : Value} {f_law : Addr} {od_law an_law : Option Addr} {sl_law : Array (Option Value)} {oc_law kV_law dc_law pm_law cd_law ct_law : Value} {C_CountError : Addr} {C_NotCalm : Addr} {C_NoPlace : Addr} {C_NothingDone : Addr} {C_NoText : Addr} {gt_SIGNS : Tok} (X : K.In h) (G : h.Ns mainGlobals mg)
    (a_is_whole : PySem.W.nsIn K mainGlobals "is_whole" = some (some (.ref f_is_whole))) (l_is_whole : K.lookup f_is_whole = some ⟨oc_is_whole, od_is_whole, .func (PySem.W.fnOf "is_whole" "is_whole" (defArgs s_is_whole) (defBody s_is_whole) (defScope s_is_whole) .none kV_is_whole dc_is_whole pm_is_whole an_is_whole cd_is_whole ct_is_whole), sl_is_whole⟩) (c_is_whole : PySem.W.codeIn K cd_is_whole "is_whole" = true) (k_is_whole : PySem.W.keepIn K (.ref f_is_whole) = true)
    (a_is_figure : PySem.W.nsIn K mainGlobals "is_figure" = some (some (.ref f_is_figure))) (l_is_figure : K.lookup f_is_figure = some ⟨oc_is_figure, od_is_figure, .func (PySem.W.fnOf "is_figure" "is_figure" (defArgs s_is_figure) (defBody s_is_figure) (defScope s_is_figure) .none kV_is_figure dc_is_figure pm_is_figure an_is_figure cd_is_figure ct_is_figure), sl_is_figure⟩) (c_is_figure : PySem.W.codeIn K cd_is_figure "is_figure" = true) (k_is_figure : PySem.W.keepIn K (.ref f_is_figure) = true)
    (a_twos_are_apart : PySem.W.nsIn K mainGlobals "twos_are_apart" = some (some (.ref f_twos_are_apart))) (l_twos_are_apart : K.lookup f_twos_are_apart = some ⟨oc_twos_are_apart, od_twos_are_apart, .func (PySem.W.fnOf "twos_are_apart" "twos_are_apart" (defArgs s_twos_are_apart) (defBody s_twos_are_apart) (defScope s_twos_are_apart) .none kV_twos_are_apart dc_twos_are_apart pm_twos_are_apart an_twos_are_apart cd_twos_are_apart ct_twos_are_apart), sl_twos_are_apart⟩) (c_twos_are_apart : PySem.W.codeIn K cd_twos_are_apart "twos_are_apart" = true) (k_twos_are_apart : PySem.W.keepIn K (.ref f_twos_are_apart) = true)
    (a_mirrored : PySem.W.nsIn K mainGlobals "mirrored" = some (some (.ref f_mirrored))) (l_mirrored : K.lookup f_mirrored = some ⟨oc_mirrored, od_mirrored, .func (PySem.W.fnOf "mirrored" "mirrored" (defArgs s_mirrored) (defBody s_mirrored) (defScope s_mirrored) .none kV_mirrored dc_mirrored pm_mirrored an_mirrored cd_mirrored ct_mirrored), sl_mirrored⟩) (c_mirrored : PySem.W.codeIn K cd_mirrored "mirrored" = true) (k_mirrored : PySem.W.keepIn K (.ref f_mirrored) = true)
    (a_is_calm : PySem.W.nsIn K mainGlobals "is_calm" = some (some (.ref f_is_calm))) (l_is_calm : K.lookup f_is_calm = some ⟨oc_is_calm, od_is_calm, .func (PySem.W.fnOf "is_calm" "is_calm" (defArgs s_is_calm) (defBody s_is_calm) (defScope s_is_calm) .none kV_is_calm dc_is_calm pm_is_calm an_is_calm cd_is_calm ct_is_calm), sl_is_calm⟩) (c_is_calm : PySem.W.codeIn K cd_is_calm "is_calm" = true) (k_is_calm : PySem.W.keepIn K (.ref f_is_calm) = true)
    (a_refuse_if_not_calm : PySem.W.nsIn K mainGlobals "refuse_if_not_calm" = some (some (.ref f_refuse_if_not_calm))) (l_refuse_if_not_calm : K.lookup f_refuse_if_not_calm = some ⟨oc_refuse_if_not_calm, od_refuse_if_not_calm, .func (PySem.W.fnOf "refuse_if_not_calm" "refuse_if_not_calm" (defArgs s_refuse_if_not_calm) (defBody s_refuse_if_not_calm) (defScope s_refuse_if_not_calm) .none kV_refuse_if_not_calm dc_refuse_if_not_calm pm_refuse_if_not_calm an_refuse_if_not_calm cd_refuse_if_not_calm ct_refuse_if_not_calm), sl_refuse_if_not_calm⟩) (c_refuse_if_not_calm : PySem.W.codeIn K cd_refuse_if_not_calm "refuse_if_not_calm" = true) (k_refuse_if_not_calm : PySem.W.keepIn K (.ref f_refuse_if_not_calm) = true)
    (a_shown : PySem.W.nsIn K mainGlobals "shown" = some (some (.ref f_shown))) (l_shown : K.lookup f_shown = some ⟨oc_shown, od_shown, .func (PySem.W.fnOf "shown" "shown" (defArgs s_shown) (defBody s_shown) (defScope s_shown) .none kV_shown dc_shown pm_shown an_shown cd_shown ct_shown), sl_shown⟩) (c_shown : PySem.W.codeIn K cd_shown "shown" = true) (k_shown : PySem.W.keepIn K (.ref f_shown) = true)
    (a_figures_of : PySem.W.nsIn K mainGlobals "figures_of" = some (some (.ref f_figures_of))) (l_figures_of : K.lookup f_figures_of = some ⟨oc_figures_of, od_figures_of, .func (PySem.W.fnOf "figures_of" "figures_of" (defArgs s_figures_of) (defBody s_figures_of) (defScope s_figures_of) .none kV_figures_of dc_figures_of pm_figures_of an_figures_of cd_figures_of ct_figures_of), sl_figures_of⟩) (c_figures_of : PySem.W.codeIn K cd_figures_of "figures_of" = true) (k_figures_of : PySem.W.keepIn K (.ref f_figures_of) = true)
    (a_read : PySem.W.nsIn K mainGlobals "read" = some (some (.ref f_read))) (l_read : K.lookup f_read = some ⟨oc_read, od_read, .func (PySem.W.fnOf "read" "read" (defArgs s_read) (defBody s_read) (defScope s_read) .none kV_read dc_read pm_read an_read cd_read ct_read), sl_read⟩) (c_read : PySem.W.codeIn K cd_read "read" = true) (k_read : PySem.W.keepIn K (.ref f_read) = true)
    (a_law_cell_at : PySem.W.nsIn K mainGlobals "_law_cell_at" = some (some (.ref f_law_cell_at))) (l_law_cell_at : K.lookup f_law_cell_at = some ⟨oc_law_cell_at, od_law_cell_at, .func (PySem.W.fnOf "_law_cell_at" "_law_cell_at" (defArgs s_law_cell_at) (defBody s_law_cell_at) (defScope s_law_cell_at) .none kV_law_cell_at dc_law_cell_at pm_law_cell_at an_law_cell_at cd_law_cell_at ct_law_cell_at), sl_law_cell_at⟩) (c_law_cell_at : PySem.W.codeIn K cd_law_cell_at "_law_cell_at" = true) (k_law_cell_at : PySem.W.keepIn K (.ref f_law_cell_at) = true)
    (a_law_whole : PySem.W.nsIn K mainGlobals "_law_whole" = some (some (.ref f_law_whole))) (l_law_whole : K.lookup f_law_whole = some ⟨oc_law_whole, od_law_whole, .func (PySem.W.fnOf "_law_whole" "_law_whole" (defArgs s_law_whole) (defBody s_law_whole) (defScope s_law_whole) .none kV_law_whole dc_law_whole pm_law_whole an_law_whole cd_law_whole ct_law_whole), sl_law_whole⟩) (c_law_whole : PySem.W.codeIn K cd_law_whole "_law_whole" = true) (k_law_whole : PySem.W.keepIn K (.ref f_law_whole) = true)
    (a_law_calm : PySem.W.nsIn K mainGlobals "_law_calm" = some (some (.ref f_law_calm))) (l_law_calm : K.lookup f_law_calm = some ⟨oc_law_calm, od_law_calm, .func (PySem.W.fnOf "_law_calm" "_law_calm" (defArgs s_law_calm) (defBody s_law_calm) (defScope s_law_calm) .none kV_law_calm dc_law_calm pm_law_calm an_law_calm cd_law_calm ct_law_calm), sl_law_calm⟩) (c_law_calm : PySem.W.codeIn K cd_law_calm "_law_calm" = true) (k_law_calm : PySem.W.keepIn K (.ref f_law_calm) = true)
    (a_law_made_calm : PySem.W.nsIn K mainGlobals "_law_made_calm" = some (some (.ref f_law_made_calm))) (l_law_made_calm : K.lookup f_law_made_calm = some ⟨oc_law_made_calm, od_law_made_calm, .func (PySem.W.fnOf "_law_made_calm" "_law_made_calm" (defArgs s_law_made_calm) (defBody s_law_made_calm) (defScope s_law_made_calm) .none kV_law_made_calm dc_law_made_calm pm_law_made_calm an_law_made_calm cd_law_made_calm ct_law_made_calm), sl_law_made_calm⟩) (c_law_made_calm : PySem.W.codeIn K cd_law_made_calm "_law_made_calm" = true) (k_law_made_calm : PySem.W.keepIn K (.ref f_law_made_calm) = true)
    (a_law_row : PySem.W.nsIn K mainGlobals "_law_row" = some (some (.ref f_law_row))) (l_law_row : K.lookup f_law_row = some ⟨oc_law_row, od_law_row, .func (PySem.W.fnOf "_law_row" "_law_row" (defArgs s_law_row) (defBody s_law_row) (defScope s_law_row) .none kV_law_row dc_law_row pm_law_row an_law_row cd_law_row ct_law_row), sl_law_row⟩) (c_law_row : PySem.W.codeIn K cd_law_row "_law_row" = true) (k_law_row : PySem.W.keepIn K (.ref f_law_row) = true)
    (a_law_text : PySem.W.nsIn K mainGlobals "_law_text" = some (some (.ref f_law_text))) (l_law_text : K.lookup f_law_text = some ⟨oc_law_text, od_law_text, .func (PySem.W.fnOf "_law_text" "_law_text" (defArgs s_law_text) (defBody s_law_text) (defScope s_law_text) .none kV_law_text dc_law_text pm_law_text an_law_text cd_law_text ct_law_text), sl_law_text⟩) (c_law_text : PySem.W.codeIn K cd_law_text "_law_text" = true) (k_law_text : PySem.W.keepIn K (.ref f_law_text) = true)
    (a_law_due : PySem.W.nsIn K mainGlobals "_law_due" = some (some (.ref f_law_due))) (l_law_due : K.lookup f_law_due = some ⟨oc_law_due, od_law_due, .func (PySem.W.fnOf "_law_due" "_law_due" (defArgs s_law_due) (defBody s_law_due) (defScope s_law_due) .none kV_law_due dc_law_due pm_law_due an_law_due cd_law_due ct_law_due), sl_law_due⟩) (c_law_due : PySem.W.codeIn K cd_law_due "_law_due" = true) (k_law_due : PySem.W.keepIn K (.ref f_law_due) = true)
    (a_law_sign_by : PySem.W.nsIn K mainGlobals "_law_sign_by" = some (some (.ref f_law_sign_by))) (l_law_sign_by : K.lookup f_law_sign_by = some ⟨oc_law_sign_by, od_law_sign_by, .func (PySem.W.fnOf "_law_sign_by" "_law_sign_by" (defArgs s_law_sign_by) (defBody s_law_sign_by) (defScope s_law_sign_by) .none kV_law_sign_by dc_law_sign_by pm_law_sign_by an_law_sign_by cd_law_sign_by ct_law_sign_by), sl_law_sign_by⟩) (c_law_sign_by : PySem.W.codeIn K cd_law_sign_by "_law_sign_by" = true) (k_law_sign_by : PySem.W.keepIn K (.ref f_law_sign_by) = true)
    (a_law_spoiled : PySem.W.nsIn K mainGlobals "_law_spoiled" = some (some (.ref f_law_spoiled))) (l_law_spoiled : K.lookup f_law_spoiled = some ⟨oc_law_spoiled, od_law_spoiled, .func (PySem.W.fnOf "_law_spoiled" "_law_spoiled" (defArgs s_law_spoiled) (defBody s_law_spoiled) (defScope s_law_spoiled) .none kV_law_spoiled dc_law_spoiled pm_law_spoiled an_law_spoiled cd_law_spoiled ct_law_spoiled), sl_law_spoiled⟩) (c_law_spoiled : PySem.W.codeIn K cd_law_spoiled "_law_spoiled" = true) (k_law_spoiled : PySem.W.keepIn K (.ref f_law_spoiled) = true)
    (a_law_is_row : PySem.W.nsIn K mainGlobals "_law_is_row" = some (some (.ref f_law_is_row))) (l_law_is_row : K.lookup f_law_is_row = some ⟨oc_law_is_row, od_law_is_row, .func (PySem.W.fnOf "_law_is_row" "_law_is_row" (defArgs s_law_is_row) (defBody s_law_is_row) (defScope s_law_is_row) .none kV_law_is_row dc_law_is_row pm_law_is_row an_law_is_row cd_law_is_row ct_law_is_row), sl_law_is_row⟩) (c_law_is_row : PySem.W.codeIn K cd_law_is_row "_law_is_row" = true) (k_law_is_row : PySem.W.keepIn K (.ref f_law_is_row) = true)
    (a_law_refused : PySem.W.nsIn K mainGlobals "_law_refused" = some (some (.ref f_law_refused))) (l_law_refused : K.lookup f_law_refused = some ⟨oc_law_refused, od_law_refused, .func (PySem.W.fnOf "_law_refused" "_law_refused" (defArgs s_law_refused) (defBody s_law_refused) (defScope s_law_refused) .none kV_law_refused dc_law_refused pm_law_refused an_law_refused cd_law_refused ct_law_refused), sl_law_refused⟩) (c_law_refused : PySem.W.codeIn K cd_law_refused "_law_refused" = true) (k_law_refused : PySem.W.keepIn K (.ref f_law_refused) = true)
    (a_law : PySem.W.nsIn K mainGlobals "law" = some (some (.ref f_law))) (l_law : K.lookup f_law = some ⟨oc_law, od_law, .func (PySem.W.fnOf "law" "law" (defArgs s_law) (defBody s_law) (defScope s_law) .none kV_law dc_law pm_law an_law cd_law ct_law), sl_law⟩) (c_law : PySem.W.codeIn K cd_law "law" = true) (k_law : PySem.W.keepIn K (.ref f_law) = true)
    (n_CountError : PySem.W.nsIn K mainGlobals "CountError" = some (some (.ref C_CountError))) (q_CountError : PySem.W.excIn K C_CountError valueErr "ValueError.__new__" = true)
    (n_NotCalm : PySem.W.nsIn K mainGlobals "NotCalm" = some (some (.ref C_NotCalm))) (q_NotCalm : PySem.W.excIn K C_NotCalm valueErr "ValueError.__new__" = true)
    (n_NoPlace : PySem.W.nsIn K mainGlobals "NoPlace" = some (some (.ref C_NoPlace))) (q_NoPlace : PySem.W.excIn K C_NoPlace valueErr "ValueError.__new__" = true)
    (n_NothingDone : PySem.W.nsIn K mainGlobals "NothingDone" = some (some (.ref C_NothingDone))) (q_NothingDone : PySem.W.excIn K C_NothingDone valueErr "ValueError.__new__" = true)
    (n_NoText : PySem.W.nsIn K mainGlobals "NoText" = some (some (.ref C_NoText))) (q_NoText : PySem.W.excIn K C_NoText valueErr "ValueError.__new__" = true)
    (x1_NoText : (PySem.W.clsIn K C_NoText).isSome = true) (x2_NoText : PySem.W.findIn K (.ref C_NoText) "__getattribute__" = some (some (.builtin "BaseException.__getattribute__"))) (x3_NoText : PySem.W.findIn K (.ref C_NoText) "__getattr__" = some none) (x4_NoText : PySem.W.findIn K (.ref C_NoText) "__class__" = some (some (.builtin "object.__class__")))
    (kt_NoText_CountError : PySem.W.kitOne K (.ref C_NoText) (.ref C_CountError) = some true)
    (es_NoText_CountError : errSub K C_NoText C_CountError = true)
    (kt_NoText_NotCalm : PySem.W.kitOne K (.ref C_NoText) (.ref C_NotCalm) = some false)
    (kt_NoText_NoPlace : PySem.W.kitOne K (.ref C_NoText) (.ref C_NoPlace) = some false)
    (kt_NoText_NothingDone : PySem.W.kitOne K (.ref C_NoText) (.ref C_NothingDone) = some false)
    (kt_NoText_NoText : PySem.W.kitOne K (.ref C_NoText) (.ref C_NoText) = some true)
    (es_NoText_NoText : errSub K C_NoText C_NoText = true)
    (kt_NoText_ValueError : PySem.W.kitOne K (.ref C_NoText) (.type "ValueError") = some true)
    (z_isinstance : PySem.W.nsIn K mainGlobals "isinstance" = some none)
    (z_int : PySem.W.nsIn K mainGlobals "int" = some none)
    (z_bool : PySem.W.nsIn K mainGlobals "bool" = some none)
    (z_len : PySem.W.nsIn K mainGlobals "len" = some none)
    (z_reversed : PySem.W.nsIn K mainGlobals "reversed" = some none)
    (z_list : PySem.W.nsIn K mainGlobals "list" = some none)
    (z_ValueError : PySem.W.nsIn K mainGlobals "ValueError" = some none)
    (z_str : PySem.W.nsIn K mainGlobals "str" = some none)
    (g_SIGNS : PySem.W.nsIn K mainGlobals "SIGNS" = some (some (.str "-012" gt_SIGNS)))
    : Txt K mg ⟨C_CountError, C_NotCalm, C_NoPlace, C_NothingDone, C_NoText, f_is_whole, PySem.W.fnOf "is_whole" "is_whole" (defArgs s_is_whole) (defBody s_is_whole) (defScope s_is_whole) .none kV_is_whole dc_is_whole pm_is_whole an_is_whole cd_is_whole ct_is_whole, f_is_figure, PySem.W.fnOf "is_figure" "is_figure" (defArgs s_is_figure) (defBody s_is_figure) (defScope s_is_figure) .none kV_is_figure dc_is_figure pm_is_figure an_is_figure cd_is_figure ct_is_figure, f_twos_are_apart, PySem.W.fnOf "twos_are_apart" "twos_are_apart" (defArgs s_twos_are_apart) (defBody s_twos_are_apart) (defScope s_twos_are_apart) .none kV_twos_are_apart dc_twos_are_apart pm_twos_are_apart an_twos_are_apart cd_twos_are_apart ct_twos_are_apart, f_mirrored, PySem.W.fnOf "mirrored" "mirrored" (defArgs s_mirrored) (defBody s_mirrored) (defScope s_mirrored) .none kV_mirrored dc_mirrored pm_mirrored an_mirrored cd_mirrored ct_mirrored, f_is_calm, PySem.W.fnOf "is_calm" "is_calm" (defArgs s_is_calm) (defBody s_is_calm) (defScope s_is_calm) .none kV_is_calm dc_is_calm pm_is_calm an_is_calm cd_is_calm ct_is_calm, f_refuse_if_not_calm, PySem.W.fnOf "refuse_if_not_calm" "refuse_if_not_calm" (defArgs s_refuse_if_not_calm) (defBody s_refuse_if_not_calm) (defScope s_refuse_if_not_calm) .none kV_refuse_if_not_calm dc_refuse_if_not_calm pm_refuse_if_not_calm an_refuse_if_not_calm cd_refuse_if_not_calm ct_refuse_if_not_calm, f_shown, PySem.W.fnOf "shown" "shown" (defArgs s_shown) (defBody s_shown) (defScope s_shown) .none kV_shown dc_shown pm_shown an_shown cd_shown ct_shown, f_figures_of, PySem.W.fnOf "figures_of" "figures_of" (defArgs s_figures_of) (defBody s_figures_of) (defScope s_figures_of) .none kV_figures_of dc_figures_of pm_figures_of an_figures_of cd_figures_of ct_figures_of, f_read, PySem.W.fnOf "read" "read" (defArgs s_read) (defBody s_read) (defScope s_read) .none kV_read dc_read pm_read an_read cd_read ct_read, f_law_cell_at, PySem.W.fnOf "_law_cell_at" "_law_cell_at" (defArgs s_law_cell_at) (defBody s_law_cell_at) (defScope s_law_cell_at) .none kV_law_cell_at dc_law_cell_at pm_law_cell_at an_law_cell_at cd_law_cell_at ct_law_cell_at, f_law_whole, PySem.W.fnOf "_law_whole" "_law_whole" (defArgs s_law_whole) (defBody s_law_whole) (defScope s_law_whole) .none kV_law_whole dc_law_whole pm_law_whole an_law_whole cd_law_whole ct_law_whole, f_law_calm, PySem.W.fnOf "_law_calm" "_law_calm" (defArgs s_law_calm) (defBody s_law_calm) (defScope s_law_calm) .none kV_law_calm dc_law_calm pm_law_calm an_law_calm cd_law_calm ct_law_calm, f_law_made_calm, PySem.W.fnOf "_law_made_calm" "_law_made_calm" (defArgs s_law_made_calm) (defBody s_law_made_calm) (defScope s_law_made_calm) .none kV_law_made_calm dc_law_made_calm pm_law_made_calm an_law_made_calm cd_law_made_calm ct_law_made_calm, f_law_row, PySem.W.fnOf "_law_row" "_law_row" (defArgs s_law_row) (defBody s_law_row) (defScope s_law_row) .none kV_law_row dc_law_row pm_law_row an_law_row cd_law_row ct_law_row, f_law_text, PySem.W.fnOf "_law_text" "_law_text" (defArgs s_law_text) (defBody s_law_text) (defScope s_law_text) .none kV_law_text dc_law_text pm_law_text an_law_text cd_law_text ct_law_text, f_law_due, PySem.W.fnOf "_law_due" "_law_due" (defArgs s_law_due) (defBody s_law_due) (defScope s_law_due) .none kV_law_due dc_law_due pm_law_due an_law_due cd_law_due ct_law_due, f_law_sign_by, PySem.W.fnOf "_law_sign_by" "_law_sign_by" (defArgs s_law_sign_by) (defBody s_law_sign_by) (defScope s_law_sign_by) .none kV_law_sign_by dc_law_sign_by pm_law_sign_by an_law_sign_by cd_law_sign_by ct_law_sign_by, f_law_spoiled, PySem.W.fnOf "_law_spoiled" "_law_spoiled" (defArgs s_law_spoiled) (defBody s_law_spoiled) (defScope s_law_spoiled) .none kV_law_spoiled dc_law_spoiled pm_law_spoiled an_law_spoiled cd_law_spoiled ct_law_spoiled, f_law_is_row, PySem.W.fnOf "_law_is_row" "_law_is_row" (defArgs s_law_is_row) (defBody s_law_is_row) (defScope s_law_is_row) .none kV_law_is_row dc_law_is_row pm_law_is_row an_law_is_row cd_law_is_row ct_law_is_row, f_law_refused, PySem.W.fnOf "_law_refused" "_law_refused" (defArgs s_law_refused) (defBody s_law_refused) (defScope s_law_refused) .none kV_law_refused dc_law_refused pm_law_refused an_law_refused cd_law_refused ct_law_refused, f_law, PySem.W.fnOf "law" "law" (defArgs s_law) (defBody s_law) (defScope s_law) .none kV_law dc_law pm_law an_law cd_law ct_law⟩ :=
  { kt_NoText_CountError := kt_NoText_CountError
    es_NoText_CountError := es_NoText_CountError
    kt_NoText_NotCalm := kt_NoText_NotCalm
    kt_NoText_NoPlace := kt_NoText_NoPlace
    kt_NoText_NothingDone := kt_NoText_NothingDone
    kt_NoText_NoText := kt_NoText_NoText
    es_NoText_NoText := es_NoText_NoText
    kt_NoText_ValueError := kt_NoText_ValueError
    f_is_whole := ⟨fun_mk (st := s_is_whole) l_is_whole c_is_whole k_is_whole, PySem.W.mg_of X G a_is_whole, (fun_mk (st := s_is_whole) l_is_whole c_is_whole k_is_whole).binds fun _ _ _ _ _ _ us hl => match us, hl with | [_], _ => rfl⟩
    f_is_figure := ⟨fun_mk (st := s_is_figure) l_is_figure c_is_figure k_is_figure, PySem.W.mg_of X G a_is_figure, (fun_mk (st := s_is_figure) l_is_figure c_is_figure k_is_figure).binds fun _ _ _ _ _ _ us hl => match us, hl with | [_], _ => rfl⟩
    f_twos_are_apart := ⟨fun_mk (st := s_twos_are_apart) l_twos_are_apart c_twos_are_apart k_twos_are_apart, PySem.W.mg_of X G a_twos_are_apart, (fun_mk (st := s_twos_are_apart) l_twos_are_apart c_twos_are_apart k_twos_are_apart).binds fun _ _ _ _ _ _ us hl => match us, hl with | [_], _ => rfl⟩
    f_mirrored := ⟨fun_mk (st := s_mirrored) l_mirrored c_mirrored k_mirrored, PySem.W.mg_of X G a_mirrored, (fun_mk (st := s_mirrored) l_mirrored c_mirrored k_mirrored).binds fun _ _ _ _ _ _ us hl => match us, hl with | [_], _ => rfl⟩
    f_is_calm := ⟨fun_mk (st := s_is_calm) l_is_calm c_is_calm k_is_calm, PySem.W.mg_of X G a_is_calm, (fun_mk (st := s_is_calm) l_is_calm c_is_calm k_is_calm).binds fun _ _ _ _ _ _ us hl => match us, hl with | [_], _ => rfl⟩
    f_refuse_if_not_calm := ⟨fun_mk (st := s_refuse_if_not_calm) l_refuse_if_not_calm c_refuse_if_not_calm k_refuse_if_not_calm, PySem.W.mg_of X G a_refuse_if_not_calm, (fun_mk (st := s_refuse_if_not_calm) l_refuse_if_not_calm c_refuse_if_not_calm k_refuse_if_not_calm).binds fun _ _ _ _ _ _ us hl => match us, hl with | [_], _ => rfl⟩
    f_shown := ⟨fun_mk (st := s_shown) l_shown c_shown k_shown, PySem.W.mg_of X G a_shown, (fun_mk (st := s_shown) l_shown c_shown k_shown).binds fun _ _ _ _ _ _ us hl => match us, hl with | [_], _ => rfl⟩
    f_figures_of := ⟨fun_mk (st := s_figures_of) l_figures_of c_figures_of k_figures_of, PySem.W.mg_of X G a_figures_of, (fun_mk (st := s_figures_of) l_figures_of c_figures_of k_figures_of).binds fun _ _ _ _ _ _ us hl => match us, hl with | [_], _ => rfl⟩
    f_read := ⟨fun_mk (st := s_read) l_read c_read k_read, PySem.W.mg_of X G a_read, (fun_mk (st := s_read) l_read c_read k_read).binds fun _ _ _ _ _ _ us hl => match us, hl with | [_], _ => rfl⟩
    f_law_cell_at := ⟨fun_mk (st := s_law_cell_at) l_law_cell_at c_law_cell_at k_law_cell_at, PySem.W.mg_of X G a_law_cell_at, (fun_mk (st := s_law_cell_at) l_law_cell_at c_law_cell_at k_law_cell_at).binds fun _ _ _ _ _ _ us hl => match us, hl with | [_, _], _ => rfl⟩
    f_law_whole := ⟨fun_mk (st := s_law_whole) l_law_whole c_law_whole k_law_whole, PySem.W.mg_of X G a_law_whole, (fun_mk (st := s_law_whole) l_law_whole c_law_whole k_law_whole).binds fun _ _ _ _ _ _ us hl => match us, hl with | [_], _ => rfl⟩
    f_law_calm := ⟨fun_mk (st := s_law_calm) l_law_calm c_law_calm k_law_calm, PySem.W.mg_of X G a_law_calm, (fun_mk (st := s_law_calm) l_law_calm c_law_calm k_law_calm).binds fun _ _ _ _ _ _ us hl => match us, hl with | [_], _ => rfl⟩
    f_law_made_calm := ⟨fun_mk (st := s_law_made_calm) l_law_made_calm c_law_made_calm k_law_made_calm, PySem.W.mg_of X G a_law_made_calm, (fun_mk (st := s_law_made_calm) l_law_made_calm c_law_made_calm k_law_made_calm).binds fun _ _ _ _ _ _ us hl => match us, hl with | [_], _ => rfl⟩
    f_law_row := ⟨fun_mk (st := s_law_row) l_law_row c_law_row k_law_row, PySem.W.mg_of X G a_law_row, (fun_mk (st := s_law_row) l_law_row c_law_row k_law_row).binds fun _ _ _ _ _ _ us hl => match us, hl with | [_], _ => rfl⟩
    f_law_text := ⟨fun_mk (st := s_law_text) l_law_text c_law_text k_law_text, PySem.W.mg_of X G a_law_text, (fun_mk (st := s_law_text) l_law_text c_law_text k_law_text).binds fun _ _ _ _ _ _ us hl => match us, hl with | [_], _ => rfl⟩
    f_law_due := ⟨fun_mk (st := s_law_due) l_law_due c_law_due k_law_due, PySem.W.mg_of X G a_law_due, (fun_mk (st := s_law_due) l_law_due c_law_due k_law_due).binds fun _ _ _ _ _ _ us hl => match us, hl with | [_], _ => rfl⟩
    f_law_sign_by := ⟨fun_mk (st := s_law_sign_by) l_law_sign_by c_law_sign_by k_law_sign_by, PySem.W.mg_of X G a_law_sign_by, (fun_mk (st := s_law_sign_by) l_law_sign_by c_law_sign_by k_law_sign_by).binds fun _ _ _ _ _ _ us hl => match us, hl with | [_], _ => rfl⟩
    f_law_spoiled := ⟨fun_mk (st := s_law_spoiled) l_law_spoiled c_law_spoiled k_law_spoiled, PySem.W.mg_of X G a_law_spoiled, (fun_mk (st := s_law_spoiled) l_law_spoiled c_law_spoiled k_law_spoiled).binds fun _ _ _ _ _ _ us hl => match us, hl with | [_, _, _, _], _ => rfl⟩
    f_law_is_row := ⟨fun_mk (st := s_law_is_row) l_law_is_row c_law_is_row k_law_is_row, PySem.W.mg_of X G a_law_is_row, (fun_mk (st := s_law_is_row) l_law_is_row c_law_is_row k_law_is_row).binds fun _ _ _ _ _ _ us hl => match us, hl with | [_, _], _ => rfl⟩
    f_law_refused := ⟨fun_mk (st := s_law_refused) l_law_refused c_law_refused k_law_refused, PySem.W.mg_of X G a_law_refused, (fun_mk (st := s_law_refused) l_law_refused c_law_refused k_law_refused).binds fun _ _ _ _ _ _ us hl => match us, hl with | [_], _ => rfl⟩
    f_law := ⟨fun_mk (st := s_law) l_law c_law k_law, PySem.W.mg_of X G a_law, (fun_mk (st := s_law) l_law c_law k_law).binds fun _ _ _ _ _ _ us hl => match us, hl with | [_], _ => rfl⟩
    e_CountError := ⟨PySem.W.mg_of X G n_CountError, q_CountError⟩
    e_NotCalm := ⟨PySem.W.mg_of X G n_NotCalm, q_NotCalm⟩
    e_NoPlace := ⟨PySem.W.mg_of X G n_NoPlace, q_NoPlace⟩
    e_NothingDone := ⟨PySem.W.mg_of X G n_NothingDone, q_NothingDone⟩
    e_NoText := ⟨PySem.W.mg_of X G n_NoText, q_NoText⟩
    x_NoText := ⟨q_NoText, x1_NoText, x2_NoText, x3_NoText, x4_NoText⟩
    b_isinstance := PySem.W.mg_none_of X G z_isinstance
    b_int := PySem.W.mg_none_of X G z_int
    b_bool := PySem.W.mg_none_of X G z_bool
    b_len := PySem.W.mg_none_of X G z_len
    b_reversed := PySem.W.mg_none_of X G z_reversed
    b_list := PySem.W.mg_none_of X G z_list
    b_ValueError := PySem.W.mg_none_of X G z_ValueError
    b_str := PySem.W.mg_none_of X G z_str
    g_SIGNS := ⟨_, PySem.W.mg_of X G g_SIGNS, _, rfl⟩ }
theorem walk {l : PySem.W.OpenLaw} {q : Program} {loose : List Str} {XP : (Str → Option Value) → Heap → Prop} {YP : World → Heap → Prop} {d : DefRec} {K : Params → PySem.W.Frag} (hn : l.most = some 63) (hdf : d.params.defaults = [])
    (hY : ∀ (w : World) (h : Heap), YP w h → (K w.params).In h)
    (F : ∀ (w : World) (mg : Str → Option Value) (fa : Addr) (h : Heap), (K w.params).In h → h.Ns mainGlobals mg → mg d.name = some (.ref fa) →
      ∃ fd : FuncData, (∀ (s : Shared) (u : Value), BindsTo s fd ⟨[u], []⟩ [("_law_script", u)]) ∧ ∀ base : Heap, (K w.params).In base → base.Ns mainGlobals mg → FnOk l.prog w (K w.params) mg base CX0 6 fa fd ["_law_script"] (sp_law (K w.params))) :
    PySem.W.WalkO q loose XP YP l.row.toRowW d [] (fun f vs => PySem.call f vs) :=
  L2.walk_of (n := 63) (k := 6) (x := "_law_script") (CX := fun _ => CX0) (sp := fun w => sp_law (K w.params)) hn (by decide) hdf ⟨rfl, by decide, by decide⟩ hY F (fun _ _ a ns hl _ hS => ⟨a, ns, rfl, hS, hl, fun _ => rfl⟩) fun _ _ _ _ _ z => z
theorem all_mk {l : PySem.W.OpenLaw} {w : World} {K : PySem.W.Frag} {mg : Str → Option Value} {t : Adr} {fa : Addr} (T : Txt K mg t) (hfa : mg "law" = some (.ref fa)) (hd : ∀ (s : Shared) (v : Value), BindsTo s t.d_law ⟨[v], []⟩ [("_law_script", v)]) :
    ∃ fd : FuncData, (∀ (s : Shared) (v : Value), BindsTo s fd ⟨[v], []⟩ [("_law_script", v)]) ∧ ∀ base : Heap, K.In base → base.Ns mainGlobals mg → FnOk l.prog w K mg base CX0 6 fa fd ["_law_script"] (sp_law K) := by
  have e := hfa.symm.trans T.f_law.mg
  cases e
  refine ⟨t.d_law, hd, fun base _ _ => ?_⟩
  have GC := all_calm (P := l.prog) (w := w) (base := base) T
  have GR := ok_read (P := l.prog) (w := w) (base := base) T (ok_figs T) GC
  exact ok_law T (ok_row T (ok_cell T) (ok_made T)) (ok_text T) (ok_shown T (ok_refCalmE T GC)) GR (ok_isrow T (ok_lwhole T)) (ok_cell T) (ok_sign T) (ok_spoiled T) (ok_due T (ok_lcalm T)) (ok_refused T GR)
end My
open PySem PySem.W PyProof.Rows
set_option maxRecDepth 100000 in
set_option maxHeartbeats 0 in
theorem PySem.Challenge.cw_calmcount_k07_written_and_read_holds : PySem.Challenge.rw_calmcount_k07_written_and_read.Holds := by
  w_on; o_law; k_head; (case hw => w_witness2)
  k_fill
  refine My.walk (l := PySem.Challenge.rw_calmcount_k07_written_and_read) rfl rfl (fun w h Y => PySem.W.kIn_of Y) ?F
  case F =>
    intro w mg fa h KX G hmg
    refine' My.all_mk (w := w) (My.txt_mk KX G ?a_is_whole ?l_is_whole ?c_is_whole ?k_is_whole ?a_is_figure ?l_is_figure ?c_is_figure ?k_is_figure ?a_twos_are_apart ?l_twos_are_apart ?c_twos_are_apart ?k_twos_are_apart ?a_mirrored ?l_mirrored ?c_mirrored ?k_mirrored ?a_is_calm ?l_is_calm ?c_is_calm ?k_is_calm ?a_refuse_if_not_calm ?l_refuse_if_not_calm ?c_refuse_if_not_calm ?k_refuse_if_not_calm ?a_shown ?l_shown ?c_shown ?k_shown ?a_figures_of ?l_figures_of ?c_figures_of ?k_figures_of ?a_read ?l_read ?c_read ?k_read ?a_law_cell_at ?l_law_cell_at ?c_law_cell_at ?k_law_cell_at ?a_law_whole ?l_law_whole ?c_law_whole ?k_law_whole ?a_law_calm ?l_law_calm ?c_law_calm ?k_law_calm ?a_law_made_calm ?l_law_made_calm ?c_law_made_calm ?k_law_made_calm ?a_law_row ?l_law_row ?c_law_row ?k_law_row ?a_law_text ?l_law_text ?c_law_text ?k_law_text ?a_law_due ?l_law_due ?c_law_due ?k_law_due ?a_law_sign_by ?l_law_sign_by ?c_law_sign_by ?k_law_sign_by ?a_law_spoiled ?l_law_spoiled ?c_law_spoiled ?k_law_spoiled ?a_law_is_row ?l_law_is_row ?c_law_is_row ?k_law_is_row ?a_law_refused ?l_law_refused ?c_law_refused ?k_law_refused ?a_law ?l_law ?c_law ?k_law ?n_CountError ?q_CountError ?n_NotCalm ?q_NotCalm ?n_NoPlace ?q_NoPlace ?n_NothingDone ?q_NothingDone ?n_NoText ?q_NoText ?x1_NoText ?x2_NoText ?x3_NoText ?x4_NoText ?kt_NoText_CountError ?es_NoText_CountError ?kt_NoText_NotCalm ?kt_NoText_NoPlace ?kt_NoText_NothingDone ?kt_NoText_NoText ?es_NoText_NoText ?kt_NoText_ValueError ?z_isinstance ?z_int ?z_bool ?z_len ?z_reversed ?z_list ?z_ValueError ?z_str ?g_SIGNS) hmg (fun s v => .of_eq rfl)
    (case a_is_whole => k_is)
    (case l_is_whole => k_is)
    (case c_is_whole => k_is)
    (case k_is_whole => k_is)
    (case a_is_figure => k_is)
    (case l_is_figure => k_is)
    (case c_is_figure => k_is)
    (case k_is_figure => k_is)
    (case a_twos_are_apart => k_is)
    (case l_twos_are_apart => k_is)
    (case c_twos_are_apart => k_is)
    (case k_twos_are_apart => k_is)
    (case a_mirrored => k_is)
    (case l_mirrored => k_is)
    (case c_mirrored => k_is)
    (case k_mirrored => k_is)
    (case a_is_calm => k_is)
    (case l_is_calm => k_is)
    (case c_is_calm => k_is)
    (case k_is_calm => k_is)
    (case a_refuse_if_not_calm => k_is)
    (case l_refuse_if_not_calm => k_is)
    (case c_refuse_if_not_calm => k_is)
    (case k_refuse_if_not_calm => k_is)
    (case a_shown => k_is)
    (case l_shown => k_is)
    (case c_shown => k_is)
    (case k_shown => k_is)
    (case a_figures_of => k_is)
    (case l_figures_of => k_is)
    (case c_figures_of => k_is)
    (case k_figures_of => k_is)
    (case a_read => k_is)
    (case l_read => k_is)
    (case c_read => k_is)
    (case k_read => k_is)
    (case a_law_cell_at => k_is)
    (case l_law_cell_at => k_is)
    (case c_law_cell_at => k_is)
    (case k_law_cell_at => k_is)
    (case a_law_whole => k_is)
    (case l_law_whole => k_is)
    (case c_law_whole => k_is)
    (case k_law_whole => k_is)
    (case a_law_calm => k_is)
    (case l_law_calm => k_is)
    (case c_law_calm => k_is)
    (case k_law_calm => k_is)
    (case a_law_made_calm => k_is)
    (case l_law_made_calm => k_is)
    (case c_law_made_calm => k_is)
    (case k_law_made_calm => k_is)
    (case a_law_row => k_is)
    (case l_law_row => k_is)
    (case c_law_row => k_is)
    (case k_law_row => k_is)
    (case a_law_text => k_is)
    (case l_law_text => k_is)
    (case c_law_text => k_is)
    (case k_law_text => k_is)
    (case a_law_due => k_is)
    (case l_law_due => k_is)
    (case c_law_due => k_is)
    (case k_law_due => k_is)
    (case a_law_sign_by => k_is)
    (case l_law_sign_by => k_is)
    (case c_law_sign_by => k_is)
    (case k_law_sign_by => k_is)
    (case a_law_spoiled => k_is)
    (case l_law_spoiled => k_is)
    (case c_law_spoiled => k_is)
    (case k_law_spoiled => k_is)
    (case a_law_is_row => k_is)
    (case l_law_is_row => k_is)
    (case c_law_is_row => k_is)
    (case k_law_is_row => k_is)
    (case a_law_refused => k_is)
    (case l_law_refused => k_is)
    (case c_law_refused => k_is)
    (case k_law_refused => k_is)
    (case a_law => k_is)
    (case l_law => k_is)
    (case c_law => k_is)
    (case k_law => k_is)
    (case n_CountError => k_is)
    (case q_CountError => k_exc)
    (case n_NotCalm => k_is)
    (case q_NotCalm => k_exc)
    (case n_NoPlace => k_is)
    (case q_NoPlace => k_exc)
    (case n_NothingDone => k_is)
    (case q_NothingDone => k_exc)
    (case n_NoText => k_is)
    (case q_NoText => k_exc)
    (case x1_NoText => kernel_rfl!)
    (case x2_NoText => k_is)
    (case x3_NoText => k_is)
    (case x4_NoText => k_is)
    (case kt_NoText_CountError => kernel_rfl!)
    (case es_NoText_CountError => kernel_rfl!)
    (case kt_NoText_NotCalm => kernel_rfl!)
    (case kt_NoText_NoPlace => kernel_rfl!)
    (case kt_NoText_NothingDone => kernel_rfl!)
    (case kt_NoText_NoText => kernel_rfl!)
    (case es_NoText_NoText => kernel_rfl!)
    (case kt_NoText_ValueError => kernel_rfl!)
    (case z_isinstance => k_is)
    (case z_int => k_is)
    (case z_bool => k_is)
    (case z_len => k_is)
    (case z_reversed => k_is)
    (case z_list => k_is)
    (case z_ValueError => k_is)
    (case z_str => k_is)
    (case g_SIGNS => k_is)
