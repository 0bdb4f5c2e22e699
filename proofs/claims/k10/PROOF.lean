import PyProof.Rows.All
import Wide.All
import OpenK.AllK
import Wide.FinOn
import Lean
import PyProof.EqAt
import PyProof.EqKinds
import PyProof.TupleCall
import PySem.Challenge.RW_turnscript_k10_lines
set_option Elab.async false
set_option linter.all false
set_option maxRecDepth 100000
namespace L2
open PySem PySem.Spec PyProof.Rows

/-- a key: an int or a str -/
abbrev Key := Sum Int Str
def keyIs : Key → Value → Bool
  | .inl k, v => Value.isInt k v
  | .inr x, v => Value.isStrOf x v
def keyH (w : World) : Key → Int
  | .inl k => hashInt k
  | .inr x => hashStr w x
theorem keyIs_shape : ∀ {k : Key} {v : Value}, keyIs k v = true → (∃ i t, k = Sum.inl i ∧ v = Value.int i t) ∨ (∃ x t, k = Sum.inr x ∧ v = Value.str x t)
  | .inl i, v, h => by
    obtain ⟨t, e⟩ := Value.isInt_shape (k := i) (v := v) h
    exact .inl ⟨i, t, rfl, e⟩
  | .inr x, v, h => by
    obtain ⟨t, e⟩ := Value.isStrOf_shape (x := x) (v := v) h
    exact .inr ⟨x, t, rfl, e⟩
theorem key_ll (a b : Int) : decide ((Sum.inl a : Key) = Sum.inl b) = (a == b) := by
  by_cases e : a = b
  · subst e; simp
  · have h : ¬ (Sum.inl a : Key) = Sum.inl b := fun q => e (Sum.inl.inj q)
    rw [decide_eq_false h]
    exact (beq_eq_false_iff_ne.mpr e).symm
theorem key_rr (a b : Str) : decide ((Sum.inr a : Key) = Sum.inr b) = decide (a = b) := by
  by_cases e : a = b
  · subst e; simp
  · have h : ¬ (Sum.inr a : Key) = Sum.inr b := fun q => e (Sum.inr.inj q)
    rw [decide_eq_false h, decide_eq_false e]
theorem key_lr (a : Int) (b : Str) : decide ((Sum.inl a : Key) = Sum.inr b) = false := decide_eq_false (fun q => nomatch q)
theorem key_rl (a : Str) (b : Int) : decide ((Sum.inr a : Key) = Sum.inl b) = false := decide_eq_false (fun q => nomatch q)

def mixKind (prog : Program) (w : World) : PySem.KeyKind prog w Key where
  is := keyIs
  hash := keyH w
  inj := fun v a b ha hb => by
    rcases keyIs_shape ha with ⟨i, t, rfl, rfl⟩ | ⟨x, t, rfl, rfl⟩
    · rcases keyIs_shape hb with ⟨j, u, rfl, e⟩ | ⟨y, u, rfl, e⟩
      · injection e with e1 _; rw [e1]
      · exact nomatch e
    · rcases keyIs_shape hb with ⟨j, u, rfl, e⟩ | ⟨y, u, rfl, e⟩
      · exact nomatch e
      · injection e with e1 _; rw [e1]
  byValue := fun k v h => by
    rcases keyIs_shape h with ⟨i, t, rfl, rfl⟩ | ⟨x, t, rfl, rfl⟩ <;> rfl
  pyHash := fun hv h => by
    rcases keyIs_shape hv with ⟨i, t, rfl, rfl⟩ | ⟨x, t, rfl, rfl⟩
    · exact wpAny_pyHash_int h
    · exact wpAny_pyHash_str h
  eqBool := fun hu hv h => by
    rcases keyIs_shape hu with ⟨i, t, rfl, rfl⟩ | ⟨x, t, rfl, rfl⟩
    · rcases keyIs_shape hv with ⟨j, u, rfl, rfl⟩ | ⟨y, u, rfl, rfl⟩
      · rw [key_ll] at h; exact wpAny_eqBool_int h
      · rw [key_lr] at h; exact SeqAt.EqAt.int_str i t y u _ _ _ _ h
    · rcases keyIs_shape hv with ⟨j, u, rfl, rfl⟩ | ⟨y, u, rfl, rfl⟩
      · rw [key_rl] at h; exact SeqAt.EqAt.str_int x t j u _ _ _ _ h
      · rw [key_rr] at h; exact wpAny_eqBool_str h
  «strs» := fun k x t v h => by
    rcases keyIs_shape h with ⟨i, u, rfl, e⟩ | ⟨y, u, rfl, e⟩
    · exact nomatch e
    · injection e with e1 _
      subst e1
      cases v <;> rfl

end L2

namespace L2
open PySem PySem.Spec PyProof.Rows

/-- a value, without the heap -/
inductive V where
  | non | bl (b : Bool) | int (i : Int) | str (x : Str) | byt (b : Array UInt8) | flt (b : UInt64) | ref (a : Addr) | ty (n : String)
  deriving DecidableEq

def RelV : V → Value → Prop
  | .non, u => u = Value.none
  | .bl b, u => u = Value.bool b
  | .int i, u => ∃ t, u = Value.int i t
  | .str x, u => ∃ t, u = Value.str x t
  | .byt b, u => ∃ t, u = Value.bytes b t
  | .flt b, u => ∃ t, u = Value.float b t
  | .ref a, u => u = Value.ref a
  | .ty n, u => u = Value.type n

abbrev Vals : List V → List Value → Prop := Paired RelV
theorem Vals.length {xs : List V} {us : List Value} (r : Vals xs us) : xs.length = us.length := Paired.length r
theorem Vals.get : ∀ {xs : List V} {us : List Value} {i : Nat} {x : V}, Vals xs us → xs[i]? = some x → ∃ u, us[i]? = some u ∧ RelV x u
  | _, _, _, _, .nil, e => by simp at e
  | _, _, 0, _, .cons r _, e => by simp at e; subst e; exact ⟨_, rfl, r⟩
  | _, _, i + 1, x, .cons _ t, e => by
    obtain ⟨u, h1, h2⟩ := Vals.get (i := i) (x := x) t (by simpa using e)
    exact ⟨u, by simpa using h1, h2⟩
theorem Vals.set {x : V} {u : Value} (r : RelV x u) : ∀ {xs : List V} {us : List Value} (i : Nat), Vals xs us → Vals (xs.set i x) (us.set i u)
  | _, _, _, .nil => .nil
  | _, _, 0, .cons _ t => .cons r t
  | _, _, i + 1, .cons q t => .cons q (Vals.set r i t)
theorem Vals.append : ∀ {xs ys : List V} {us ws : List Value}, Vals xs us → Vals ys ws → Vals (xs ++ ys) (us ++ ws)
  | _, _, _, _, .nil, s => s
  | _, _, _, _, .cons r t, s => .cons r (Vals.append t s)
theorem Vals.take : ∀ {xs : List V} {us : List Value} (n : Nat), Vals xs us → Vals (xs.take n) (us.take n)
  | _, _, 0, _ => .nil
  | _, _, _ + 1, .nil => .nil
  | _, _, n + 1, .cons r t => .cons r (Vals.take n t)
theorem Vals.drop : ∀ {xs : List V} {us : List Value} (n : Nat), Vals xs us → Vals (xs.drop n) (us.drop n)
  | _, _, 0, r => r
  | _, _, _ + 1, .nil => .nil
  | _, _, n + 1, .cons _ t => Vals.drop n t
def RelO : Option V → Option Value → Prop
  | some v, some u => RelV v u
  | none, none => True
  | _, _ => False
def KV {κ : Type} : List (κ × V) → List (κ × Value) → Prop := Paired fun (p : κ × V) (q : κ × Value) => p.1 = q.1 ∧ RelV p.2 q.2

/-- a key of a dict (00_mix): an int or a text -/
def kV : Key → V
  | .inl i => .int i
  | .inr x => .str x

/-- what stands at a tracked address -/
inductive HO where
  /-- a list -/
  | lst (xs : List V)
  /-- a tuple (never changes) -/
  | tup (xs : List V)
  /-- a dict whose keys are ints and texts; one whose keys are tuples of ints and texts (the empty one is both) -/
  | dK (kvs : List (Key × V)) | dT (kvs : List (List Key × V))
  /-- a set of ints: its members, its size -/
  | set (S : Int → Bool) (n : Nat)
  /-- an instance of the class at C, its dict at dx, its attributes -/
  | ins (C dx : Addr) (fs : List (Str × V))
  /-- the dict of the instance at x -/
  | own (x : Addr)
  /-- the dict of an exception -/
  | xd (fs : List (Str × V))
  /-- a bound method, f of x -/
  | met (f x : Addr)
  /-- a range object lo, lo + 1, .. below hi -/
  | rng (lo hi : Int)
  /-- a thing that is known to the object (the script; a dict while a loop walks it): read, never written while it is so -/
  | frz (o : Obj) (u : HO)
  /-- a code object's table -/
  | tbl (ps : Array Value)
  /-- any other thing, by what is true of its one object (a def of one's own: SetO a S n := HO.ext fun h => ..) -/
  | ext (φ : Heap → Prop)

abbrev Hp := Addr → Option HO
def upd (H : Hp) (a : Addr) (o : HO) : Hp := fun b => if b = a then some o else H b
theorem upd_same {H : Hp} {a : Addr} {o : HO} : upd H a o a = some o := by unfold upd; rw [if_pos rfl]
theorem upd_ne {H : Hp} {a b : Addr} {o : HO} (h : b ≠ a) : upd H a o b = H b := by unfold upd; rw [if_neg h]
theorem ne_of_none {H : Hp} {a b : Addr} {o : HO} (h : H a = some o) (h' : H b = none) : a ≠ b := by
  intro e; subst e; rw [h] at h'; cases h'

section
variable (P : Program) (w : World)
def ObjOk (H : Hp) (h : Heap) (a : Addr) : HO → Prop
  | .lst xs => xs.length ≤ sizeLine ∧ ∃ (its : List Value) (n : Nat), Vals xs its ∧ h.get? a = some { cls := .type "list", data := .seq its.toArray n }
  | .tup xs => xs.length ≤ sizeLine ∧ ∃ its : List Value, Vals xs its ∧ IsTup h a its.toArray
  | .dK kvs => kvs.length ≤ sizeLine ∧ (a == sysModules) = false ∧ ∃ vs, KV kvs vs ∧ h.DictOf (mixKind P w) a vs
  | .dT kvs => kvs.length ≤ sizeLine ∧ (a == sysModules) = false ∧ ∃ xs : List (List Key × Addr × Value),
      Paired (fun (p : List Key × V) (q : List Key × Addr × Value) => p.1 = q.1 ∧ H q.2.1 = some (.tup (p.1.map kV)) ∧ RelV p.2 q.2.2) kvs xs ∧
      ∃ o es ep, h.get? a = some o ∧ o.ExactDict ∧ o.data = .dict es ep ∧ es.toList = xs.map (entryOfKey (tupleKind (mixKind P w))) ∧ (xs.map (·.1)).Nodup
  | .set S n => h.SetOf (intKind P w) a S n
  | .ins C dx fs => H dx = some (.own a) ∧ fs.length ≤ 1000 ∧ dx ≠ a ∧ h.get? a = some (PySem.W.instObj C dx) ∧
      ∃ mA, h.Ns1 dx mA ∧ (∀ f, RelO (fs.lookup f) (mA f)) ∧ PySem.Within mA (fs.map (·.1))
  | .own _ => ∃ o, h.get? a = some o
  | .xd fs => ∃ mA, h.Ns1 a mA ∧ ∀ f, RelO (fs.lookup f) (mA f)
  | .rng lo hi => ∃ t u v, h.get? a = some { cls := .type "range", data := .fields #[.int lo t, .int hi u, .int 1 v] }
  | .frz o u => h.get? a = some o ∧ ObjOk H h a u
  | .tbl ps => h.get? a = some { cls := .none, data := .fields ps }
  | .met f x => h.get? a = some (PySem.W.methodObj (.ref f) (.ref x))
  | .ext φ => φ h ∧ (∃ o, h.get? a = some o) ∧ ∀ h1 h2 : Heap, φ h1 → (∀ o, h1.get? a = some o → h2.get? a = some o) → φ h2
/-- the abstract heap is held -/
def HOk (H : Hp) (h : Heap) : Prop := ∀ a o, H a = some o → ObjOk P w H h a o
end

section
variable {P : Program} {w : World} {H H' : Hp} {h h' : Heap} {a : Addr} {o : HO}
theorem ObjOk.lt (x : ObjOk P w H h a o) : a < h.objs.size := by
  cases o with
  | lst xs => obtain ⟨_, _, _, _, e⟩ := x; exact Heap.lt_size e
  | tup xs => obtain ⟨_, _, _, p⟩ := x; exact p.lt
  | dK kvs => obtain ⟨_, _, _, _, o, _, _, e, _⟩ := x; exact Heap.lt_size e
  | dT kvs => obtain ⟨_, _, _, _, o, _, _, e, _⟩ := x; exact Heap.lt_size e
  | set S n => obtain ⟨o, _, _, _, e, _⟩ := x; exact Heap.lt_size e
  | ins C dx fs => obtain ⟨_, _, _, e, _⟩ := x; exact Heap.lt_size e
  | own y => obtain ⟨_, e⟩ := x; exact Heap.lt_size e
  | xd fs => obtain ⟨_, ⟨_, _, _, e, _⟩, _⟩ := x; exact Heap.lt_size e
  | rng lo hi => obtain ⟨_, _, _, e⟩ := x; exact Heap.lt_size e
  | frz ob u => obtain ⟨e, _⟩ := x; exact Heap.lt_size e
  | tbl ps => exact Heap.lt_size (show h.get? a = some _ from x)
  | met f y => exact Heap.lt_size (show h.get? a = some _ from x)
  | ext φ => obtain ⟨_, ⟨_, e⟩, _⟩ := x; exact Heap.lt_size e
theorem Paired.mapP {α β : Type} {F G : α → β → Prop} : ∀ {l₁ : List α} {l₂ : List β}, Paired F l₁ l₂ → (∀ a b, F a b → G a b) → Paired G l₁ l₂
  | _, _, .nil, _ => .nil
  | _, _, .cons r t, f => .cons (f _ _ r) (Paired.mapP t f)
/-- what an object's description leans on: its own object, its own dict, the tuples -/
theorem ObjOk.stay (x : ObjOk P w H h a o) (k : ∀ b u, (b = a ∨ H b = some (.own a)) → h.get? b = some u → h'.get? b = some u)
    (ho : ∀ b, H b = some (.own a) → H' b = some (.own a)) (ht : ∀ b xs, H b = some (.tup xs) → H' b = some (.tup xs)) : ObjOk P w H' h' a o := by
  induction o with
  | lst xs => obtain ⟨z, its, n, r, e⟩ := x; exact ⟨z, its, n, r, k _ _ (.inl rfl) e⟩
  | tup xs => obtain ⟨z, its, r, ob, e, c⟩ := x; exact ⟨z, its, r, ob, k _ _ (.inl rfl) e, c⟩
  | dK kvs => obtain ⟨z, y, vs, r, ob, es, ep, e, c⟩ := x; exact ⟨z, y, vs, r, ob, es, ep, k _ _ (.inl rfl) e, c⟩
  | dT kvs =>
    obtain ⟨z, y, xs, r, ob, es, ep, e, c⟩ := x
    exact ⟨z, y, xs, Paired.mapP r fun p q z => ⟨z.1, ht _ _ z.2.1, z.2.2⟩, ob, es, ep, k _ _ (.inl rfl) e, c⟩
  | set S n => obtain ⟨ob, es, ep, t, e, c⟩ := x; exact ⟨ob, es, ep, t, k _ _ (.inl rfl) e, c⟩
  | ins C dx fs =>
    obtain ⟨d, z, ne, e, mA, ⟨od, es, ep, e2, c⟩, r⟩ := x
    exact ⟨ho _ d, z, ne, k _ _ (.inl rfl) e, mA, ⟨od, es, ep, k _ _ (.inr d) e2, c⟩, r⟩
  | own y => obtain ⟨ob, e⟩ := x; exact ⟨ob, k _ _ (.inl rfl) e⟩
  | xd fs => obtain ⟨mA, ⟨od, es, ep, e, c⟩, r⟩ := x; exact ⟨mA, ⟨od, es, ep, k _ _ (.inl rfl) e, c⟩, r⟩
  | rng lo hi => obtain ⟨t, u, v, e⟩ := x; exact ⟨t, u, v, k _ _ (.inl rfl) e⟩
  | frz ob u ih => obtain ⟨e, q⟩ := x; exact ⟨k _ _ (.inl rfl) e, ih q⟩
  | tbl ps =>
    have e : h.get? a = some { cls := .none, data := .fields ps } := x
    show h'.get? a = some { cls := .none, data := .fields ps }
    exact k a _ (.inl rfl) e
  | met f y =>
    have e : h.get? a = some (PySem.W.methodObj (.ref f) (.ref y)) := x
    show h'.get? a = some (PySem.W.methodObj (.ref f) (.ref y))
    exact k a _ (.inl rfl) e
  | ext φ => obtain ⟨p, ⟨o, e⟩, st⟩ := x; exact ⟨st _ _ p fun o q => k _ _ (.inl rfl) q, ⟨o, k _ _ (.inl rfl) e⟩, st⟩
theorem HOk.lt (x : HOk P w H h) (e : H a = some o) : a < h.objs.size := (x a o e).lt
theorem HOk.fresh (x : HOk P w H h) (e : h.objs.size ≤ a) : H a = none := by
  cases q : H a with
  | none => rfl
  | some u => exact absurd (Nat.lt_of_lt_of_le (x.lt q) e) (Nat.lt_irrefl _)
/-- every object of the heap is kept -/
theorem HOk.kept (x : HOk P w H h) (k : ∀ b u, h.get? b = some u → h'.get? b = some u) : HOk P w H h' := fun a o e =>
  (x a o e).stay (fun b u _ q => k b u q) (fun _ q => q) fun _ _ q => q
/-- a new object is laid and tracked -/
theorem HOk.laid (x : HOk P w H h) (k : ∀ b u, h.get? b = some u → h'.get? b = some u) (hp : h.objs.size ≤ a) (new : ObjOk P w (upd H a o) h' a o) : HOk P w (upd H a o) h' := fun b u e => by
  have hn := x.fresh hp
  by_cases hb : b = a
  · subst hb; rw [upd_same] at e; cases e; exact new
  · rw [upd_ne hb] at e
    exact (x b u e).stay (fun c v _ q => k c v q) (fun c q => by rw [upd_ne (ne_of_none q hn)]; exact q) fun c xs q => by rw [upd_ne (ne_of_none q hn)]; exact q
end

/-- what may be read as u: it is u, or a known u -/
def Rd (H : Hp) (a : Addr) (u : HO) : Prop := H a = some u ∨ ∃ o, H a = some (.frz o u)
theorem Rd.of {H : Hp} {a : Addr} {u : HO} (h : H a = some u) : Rd H a u := .inl h
theorem Rd.ok {P : Program} {w : World} {H : Hp} {h : Heap} {a : Addr} {u : HO} (r : Rd H a u) (x : HOk P w H h) : ObjOk P w H h a u := by
  rcases r with r | ⟨o, r⟩
  · exact x a u r
  · obtain ⟨_, q⟩ := x a _ r
    exact q
/-- what may be written -/
def Mut : Option HO → Prop
  | some (.lst _) => True
  | some (.dK _) => True
  | some (.dT _) => True
  | some (.set _ _) => True
  | some (.ins _ _ _) => True
  | some (.ext _) => True
  | _ => False
section
variable {P : Program} {w : World} {H : Hp} {h h' : Heap} {x e : Addr} {o' : HO}
/-- the object at e is changed: x itself, or the dict of the instance x -/
theorem HOk.write (ok : HOk P w H h) (mu : Mut (H x)) (he : e = x ∨ H e = some (.own x)) (k : ∀ b u, b ≠ e → h.get? b = some u → h'.get? b = some u) (heo : ∃ u, h'.get? e = some u)
    (new : ObjOk P w (upd H x o') h' x o') : HOk P w (upd H x o') h' := fun b u q => by
  have nown : ∀ c y, H c = some (.own y) → c ≠ x := fun c y r z => by subst z; rw [r] at mu; exact mu
  have ntup : ∀ c xs, H c = some (.tup xs) → c ≠ x := fun c xs r z => by subst z; rw [r] at mu; exact mu
  by_cases hb : b = x
  · subst hb; rw [upd_same] at q; cases q; exact new
  · rw [upd_ne hb] at q
    by_cases hbe : b = e
    · have q' : H b = some (.own x) := by
        rcases he with z | z
        · exact absurd (hbe.trans z) hb
        · rw [hbe]; exact z
      rw [q] at q'; cases q'
      obtain ⟨v, hv⟩ := heo
      exact ⟨v, by rw [hbe]; exact hv⟩
    · refine (ok b u q).stay (fun c v hc r => k c v ?_ r) (fun c r => by rw [upd_ne (nown c b r)]; exact r) fun c xs r => by rw [upd_ne (ntup c xs r)]; exact r
      rcases hc with rfl | hc
      · exact hbe
      · rintro rfl
        rcases he with z | z
        · exact nown c b hc z
        · rw [hc] at z; cases z; exact hb rfl
end

structure Un (fs ex : List Addr) (H H' : Hp) (h h' : Heap) : Prop where
  keep : ∀ b o, h.get? b = some o → H b = none → b ∉ fs → b ∉ ex → h'.get? b = some o
  slot : ∀ b o, h.get? b = some o → H b = none → b ∈ fs → b ∉ ex → ∃ sl, h'.get? b = some { o with slots := sl }
  free : ∀ b o, h.get? b = some o → H b = none → b ∉ ex → H' b = none
  there : ∀ b o, h.get? b = some o → b ∉ ex → ∃ o', h'.get? b = some o'
  tups : ∀ b xs, H b = some (.tup xs) → H' b = some (.tup xs)
  frzs : ∀ b o u, H b = some (.frz o u) → H' b = some (.frz o u)
  tbls : ∀ b ps, H b = some (.tbl ps) → ∃ more, H' b = some (.tbl (ps ++ more))
section
variable {fs fs' ex ex' : List Addr} {H H1 H2 : Hp} {h h1 h2 h' : Heap} {a x e : Addr} {o : HO}
theorem Un.any (u : Un fs ex H H1 h h1) {b : Addr} {ob : Obj} (q : h.get? b = some ob) (n : H b = none) (hx : b ∉ ex) : ∃ sl, h1.get? b = some { ob with slots := sl } := by
  by_cases hb : b ∈ fs
  · exact u.slot b ob q n hb hx
  · exact ⟨ob.slots, u.keep b ob q n hb hx⟩
theorem Un.trans (a : Un fs ex H H1 h h1) (b : Un fs ex H1 H2 h1 h2) : Un fs ex H H2 h h2 where
  keep := fun c ob q n hc hx => b.keep c ob (a.keep c ob q n hc hx) (a.free c ob q n hx) hc hx
  slot := fun c ob q n hc hx => by
    obtain ⟨sl, e1⟩ := a.slot c ob q n hc hx
    obtain ⟨sl', e2⟩ := b.slot c _ e1 (a.free c ob q n hx) hc hx
    exact ⟨sl', e2⟩
  free := fun c ob q n hx => by
    obtain ⟨o', e1⟩ := a.there c ob q hx
    exact b.free c o' e1 (a.free c ob q n hx) hx
  there := fun c ob q hx => by
    obtain ⟨o', e1⟩ := a.there c ob q hx
    exact b.there c o' e1 hx
  tups := fun c xs q => b.tups c xs (a.tups c xs q)
  frzs := fun c ob xs q => b.frzs c ob xs (a.frzs c ob xs q)
  tbls := fun c ps q => by
    obtain ⟨m1, e1⟩ := a.tbls c ps q
    obtain ⟨m2, e2⟩ := b.tbls c _ e1
    exact ⟨m1 ++ m2, by rw [e2, Array.append_assoc]⟩
theorem Un.kept (k : ∀ b u, h.get? b = some u → h'.get? b = some u) : Un fs ex H H h h' :=
  ⟨fun b ob q _ _ _ => k b ob q, fun b ob q _ _ _ => ⟨ob.slots, k b ob q⟩, fun _ _ _ n _ => n, fun b ob q _ => ⟨ob, k b ob q⟩, fun _ _ q => q, fun _ _ _ q => q, fun _ ps q => ⟨#[], by rw [q]; simp⟩⟩
theorem Un.refl : Un fs ex H H h h := Un.kept fun _ _ q => q
theorem Un.laid (k : ∀ b u, h.get? b = some u → h'.get? b = some u) (hp : h.objs.size ≤ a) (hn : H a = none) : Un fs ex H (upd H a o) h h' where
  keep := fun b u q _ _ _ => k b u q
  slot := fun b u q _ _ _ => ⟨u.slots, k b u q⟩
  free := fun b u q n _ => by rw [upd_ne (Nat.ne_of_lt (Nat.lt_of_lt_of_le (Heap.lt_size q) hp))]; exact n
  there := fun b u q _ => ⟨u, k b u q⟩
  tups := fun b xs q => by rw [upd_ne (ne_of_none q hn)]; exact q
  frzs := fun b u xs q => by rw [upd_ne (ne_of_none q hn)]; exact q
  tbls := fun b ps q => ⟨#[], by rw [upd_ne (ne_of_none q hn), q]; simp⟩
theorem Un.write (mu : Mut (H x)) (he : e = x ∨ H e = some (.own x)) (k : ∀ b u, b ≠ e → h.get? b = some u → h'.get? b = some u) (heo : ∃ u, h'.get? e = some u) : Un fs ex H (upd H x o) h h' := by
  have hx : ∀ b, H b = none → b ≠ x := fun b n z => by subst z; rw [n] at mu; exact mu
  have hb : ∀ b, H b = none → b ≠ e := fun b n z => by
    subst z
    rcases he with r | r
    · exact hx b n r
    · rw [n] at r; cases r
  have hm : ∀ b u, H b = some u → ¬ Mut (some u) → b ≠ x := fun b u q nm z => by subst z; rw [q] at mu; exact nm mu
  refine ⟨fun b u q n _ _ => k b u (hb b n) q, fun b u q n _ _ => ⟨u.slots, k b u (hb b n) q⟩, fun b u q n _ => by rw [upd_ne (hx b n)]; exact n, fun b u q _ => ?_,
    fun b xs q => by rw [upd_ne (hm b _ q fun z => z)]; exact q, fun b u xs q => by rw [upd_ne (hm b _ q fun z => z)]; exact q, fun b ps q => ⟨#[], by rw [upd_ne (hm b _ q fun z => z), q]; simp⟩⟩
  by_cases hbe : b = e
  · subst hbe; exact heo
  · exact ⟨u, k b u hbe q⟩
theorem Un.mono (u : Un fs ex H H1 h h1) (hs : ∀ b ∈ fs, b ∈ fs') (hx : ∀ b ∈ ex, b ∈ ex') : Un fs' ex' H H1 h h1 :=
  ⟨fun b ob q n hb he => u.keep b ob q n (fun z => hb (hs b z)) fun z => he (hx b z), fun _ _ q n _ he => u.any q n fun z => he (hx _ z), fun b ob q n he => u.free b ob q n fun z => he (hx b z), fun b ob q he => u.there b ob q fun z => he (hx b z), u.tups, u.frzs, u.tbls⟩
end

def trk (h : Heap) (H : Hp) : List Addr := (List.range h.objs.size).filter fun a => (H a).isSome
def hidT (h : Heap) (H : Hp) : Heap := PySem.W.hideAll h (trk h H)
theorem hidT_size (h : Heap) (H : Hp) : (hidT h H).objs.size = h.objs.size := PySem.W.hideAll_size _ _
theorem hidT_get {h : Heap} {H : Hp} {b : Addr} {o : Obj} (e : h.get? b = some o) (n : H b = none) : (hidT h H).get? b = some o :=
  PySem.W.hideAll_get _ e fun hm => by
    have q : (H b).isSome = true := (List.mem_filter.mp hm).2
    rw [n] at q; simp at q
theorem of_hidT {h : Heap} {H : Hp} {b : Addr} {o : Obj} (e : (hidT h H).get? b = some o) : h.get? b = some o ∧ H b = none := by
  have e' : h.get? b = some o := PySem.W.of_hideAll (trk h H) e
  refine ⟨e', ?_⟩
  cases q : H b with
  | none => rfl
  | some x =>
    have hm : b ∈ trk h H := List.mem_filter.mpr ⟨List.mem_range.mpr (Heap.lt_size e'), by simp [q]⟩
    have z : (hidT h H).get? b = none := PySem.W.hideAll_none (trk h H) hm
    rw [z] at e; cases e

def allNews (g h : Heap) (L : Addr) : List (Addr × Obj) := (List.range h.objs.size).filterMap fun a => if a = L ∨ (g.get? a).isSome = true then none else (h.get? a).map fun o => (a, o)
def rest (g h : Heap) (L d : Addr) : List (Addr × Obj) := (allNews g h L).filter fun p => decide (p.1 ≠ d)
end L2

namespace L2
open PySem PySem.Spec PyProof.Rows

/-- the module's facts, over the base: the heap at the law's entry without what is tracked there -/
structure Mod (K : PySem.W.Frag) (mg : Str → Option Value) (base : Heap) : Prop where
  kin : K.In base
  glob : base.Ns mainGlobals mg
  blt : ∃ mb, base.Ns builtinsNs mb ∧ ∀ x : Str, x ≠ "__name__" → mb x = bootBuiltins x
  nolimit : base.NoLimit

/-- the context: a def's body (or a comprehension's block) running. base: fixed through the whole law; s₀, H₀: the entry; outer: the frames whose slots others may change (a def's callers); stack: all frames that run;
   ex: iterators that were made ahead of the entry and are walked here (a comprehension's); fn: the names whose cells were made at the entry (a def: all; a comprehension's block: its own); calm: not within an except suite; pn: pins that every state bears; xe: what is wanted of an exception that leaves the code -/
structure Cx where
  prog : Program
  w : World
  K : PySem.W.Frag
  mg : Str → Option Value
  base : Heap
  A : Around
  N : List Str
  s₀ : Shared
  H₀ : Hp
  env : Env
  outer : List Env
  stack : List Env
  ex : List Addr
  fn : Str → Bool
  calm : Bool
  pn : List (Addr × Obj)
  xe : Value → Shared → Prop
/-- the callers' frames -/
def frs (l : List Env) : List Addr := l.filterMap (·.frame)
abbrev Cx.fs (X : Cx) : List Addr := frs X.outer

def Vis (sc : Scope) (x : Str) : Prop := sc.names.lookup x = some .local ∨ sc.names.lookup x = some .cell ∨ sc.names.lookup x = some .free
def Loc (sc : Scope) (x : Str) : Prop := sc.names.lookup x = some .local ∨ sc.names.lookup x = some .cell
def Look (env : Env) (h : Heap) (m : Str → Option Value) (x : Str) (u : Value) : Prop :=
  (env.kindOf x = some .local ∧ m x = some u) ∨ ((env.kindOf x = some .cell ∨ env.kindOf x = some .free) ∧ ∃ c, env.cells.lookup x = some c ∧ h.IsCell c (some u))

structure Cx.Ok (X : Cx) : Prop where
  mod : Mod X.K X.mg X.base
  kind : X.env.scope.kind = .function
  glob : X.env.globals = mainGlobals
  blt : X.env.builtins = builtinsNs
  above : X.s₀.heap.objs.size ≤ X.env.locals
  inj : ∀ x y c, X.env.cells.lookup x = some c → X.env.cells.lookup y = some c → x = y
  has : ∀ x, (X.env.kindOf x = some .cell ∨ X.env.kindOf x = some .free) → ∃ c, X.env.cells.lookup x = some c
  cab : ∀ x c, X.fn x = true → X.env.cells.lookup x = some c → X.s₀.heap.objs.size ≤ c
  hd : X.calm = true → X.A.handled = none
  frames : X.A.frames = some X.stack
  stk : X.stack = X.outer ∨ (X.stack = X.env :: X.outer ∧ X.env.frame = some X.env.locals)
  exf : ∀ b ∈ X.ex, b ≠ X.env.locals ∧ ∀ x c, X.env.cells.lookup x = some c → c ≠ b
  bs : ∀ b o, X.base.get? b = some o → X.s₀.heap.get? b = some o ∧ X.H₀ b = none
  bsz : X.base.objs.size ≤ X.s₀.heap.objs.size
  noex : ∀ b o, X.base.get? b = some o → b ∉ X.ex
  exfs : ∀ b ∈ X.ex, b ∉ X.fs
  funs : X.s₀.heap.FunFrames X.base X.outer
  frf : ∀ b ∈ X.fs, X.H₀ b = none

structure Inv (X : Cx) (pins : List (Addr × Obj)) (σ : List (Option V)) (H : Hp) (s : Shared) : Prop where
  ok : X.Ok
  os : s.os = X.s₀.os
  bare : AllBare s.gens
  base : Un X.fs X.ex X.H₀ H X.s₀.heap s.heap
  loc : ∃ m, s.heap.Ns X.env.locals m ∧ ∀ (i : Nat) (x : Str) (v : V), X.N[i]? = some x → σ[i]? = some (some v) → Vis X.env.scope x → ∃ u, RelV v u ∧ Look X.env s.heap m x u
  cell : ∀ x c, X.env.cells.lookup x = some c → ∃ v, s.heap.IsCell c v
  free : H X.env.locals = none
  freeC : ∀ x c, X.env.cells.lookup x = some c → H c = none
  pin : ∀ p ∈ X.pn ++ pins, s.heap.get? p.1 = some p.2 ∧ H p.1 = none ∧ p.1 ≠ X.env.locals ∧ p.1 ∉ X.fs ∧ ∀ v, p.2.data ≠ .cell v
  hok : HOk X.prog X.w H s.heap
  len : σ.length = X.N.length

section
variable {X : Cx} {pins : List (Addr × Obj)} {σ : List (Option V)} {H H' : Hp} {s : Shared} {h' : Heap}

theorem Cx.Ok.nofr (ok : X.Ok) {b : Addr} {o : Obj} (e : X.base.get? b = some o) : b ∉ X.fs := fun hb => by
  have := (ok.funs.mem hb).1
  rw [e] at this; cases this
theorem Inv.bs (I : Inv X pins σ H s) : ∀ b o, X.base.get? b = some o → s.heap.get? b = some o ∧ H b = none := fun b o e =>
  ⟨I.base.keep b o (I.ok.bs b o e).1 (I.ok.bs b o e).2 (I.ok.nofr e) (I.ok.noex b o e), I.base.free b o (I.ok.bs b o e).1 (I.ok.bs b o e).2 (I.ok.noex b o e)⟩
theorem Inv.bk (I : Inv X pins σ H s) : ∀ b o, X.base.get? b = some o → s.heap.get? b = some o := fun b o e => (I.bs b o e).1
theorem Inv.mod (I : Inv X pins σ H s) : Mod X.K X.mg X.base := I.ok.mod
theorem Inv.kIn (I : Inv X pins σ H s) : X.K.In s.heap := I.ok.mod.kin.keeps I.bk
theorem Inv.nolimit (I : Inv X pins σ H s) : s.heap.NoLimit := I.ok.mod.nolimit.keeps I.bk
/-- the frame over the base: for OpenK's rules (K.In X.base is I.mod.kin) -/
theorem Inv.fr (I : Inv X pins σ H s) : ∃ m, Fr X.base X.env.locals s.heap m :=
  let ⟨m, hn, _⟩ := I.loc
  ⟨m, hn, I.bk, Nat.le_trans I.ok.bsz I.ok.above⟩
theorem Inv.lt (I : Inv X pins σ H s) : X.env.locals < s.heap.objs.size := let ⟨_, hn, _⟩ := I.loc; hn.lt
theorem Inv.sz (I : Inv X pins σ H s) : X.s₀.heap.objs.size ≤ s.heap.objs.size := Nat.le_trans I.ok.above (Nat.le_of_lt I.lt)
theorem Inv.nofs (I : Inv X pins σ H s) {a : Addr} (h : s.heap.objs.size ≤ a) : a ∉ X.fs := fun hb => by
  obtain ⟨_, o, ho, _⟩ := I.ok.funs.mem hb
  exact absurd (Nat.lt_of_lt_of_le (Heap.lt_size ho) (Nat.le_trans I.sz h)) (Nat.lt_irrefl _)
theorem Inv.cne (I : Inv X pins σ H s) : ∀ x c, X.env.cells.lookup x = some c → c ≠ X.env.locals := fun x c e z => by
  obtain ⟨v, o, ho, hd⟩ := I.cell x c e
  obtain ⟨m, ⟨o', es, ep, ho', hd', _⟩, _⟩ := I.loc
  rw [z, ho'] at ho; cases ho; rw [hd'] at hd; cases hd
theorem Inv.funs (I : Inv X pins σ H s) : s.heap.FunFrames X.base X.outer := by
  have all : ∀ (l : List Env), (∀ b ∈ frs l, b ∈ X.fs) → X.s₀.heap.FunFrames X.base l → s.heap.FunFrames X.base l := by
    intro l
    induction l with
    | nil => intro _ _; trivial
    | cons env r ih =>
      intro hs hl
      obtain ⟨hk, ⟨L, o, hf, hn, ho, hd⟩, hr⟩ := hl
      have hL : L ∈ X.fs := hs L (by unfold frs; rw [List.filterMap_cons, hf]; exact List.mem_cons_self)
      obtain ⟨sl, e⟩ := I.base.slot L o ho (I.ok.frf L hL) hL fun z => I.ok.exfs L z hL
      exact ⟨hk, ⟨L, _, hf, hn, e, hd⟩, ih (fun b hb => hs b (by unfold frs; rw [List.filterMap_cons, hf]; exact List.mem_cons_of_mem _ hb)) hr⟩
  exact all X.outer (fun _ hb => hb) I.ok.funs

/-- the frames that run, for a call -/
theorem Inv.stack (I : Inv X pins σ H s) : s.heap.FunFrames X.base X.stack := by
  rcases I.ok.stk with e | ⟨e, hf⟩
  · rw [e]; exact I.funs
  · rw [e]
    obtain ⟨m, hn, _⟩ := I.loc
    refine .cons (by rw [I.ok.kind]; decide) hf hn ?_ I.funs
    exact Heap.get?_none_of_le (Nat.le_trans I.ok.bsz I.ok.above)
theorem Inv.stkSub (I : Inv X pins σ H s) : ∀ b ∈ frs X.stack, b ∈ X.env.locals :: X.fs := fun b hb => by
  rcases I.ok.stk with e | ⟨e, hf⟩
  · rw [e] at hb; exact List.mem_cons_of_mem _ hb
  · rw [e] at hb
    unfold frs at hb
    rw [List.filterMap_cons, hf] at hb
    exact hb
theorem Inv.stkFree (I : Inv X pins σ H s) : ∀ b ∈ frs X.stack, H b = none := fun b hb => by
  rcases List.mem_cons.mp (I.stkSub b hb) with e | hb
  · rw [e]; exact I.free
  · obtain ⟨_, o, ho, _⟩ := I.ok.funs.mem hb
    exact I.base.free b o ho (I.ok.frf b hb) fun z => I.ok.exfs b z hb

/-- THE STEP: the untracked objects but the frame and the records at ch are kept (the callers' frames up to slots), the frame's map is kept, the new abstract heap is held -/
theorem Inv.step {g' : Array GenState} {t' : Nat} {d' : Drawn} {ch : List Addr} (I : Inv X pins σ H s)
    (hch : ∀ b ∈ ch, (b ∈ X.ex ∨ X.s₀.heap.objs.size ≤ b) ∧ b ≠ X.env.locals ∧ (∀ x c, X.env.cells.lookup x = some c → c ≠ b) ∧ ∀ p ∈ X.pn ++ pins, p.1 ≠ b)
    (keep : ∀ b o, b ≠ X.env.locals → b ∉ X.fs → b ∉ ch → s.heap.get? b = some o → H b = none → h'.get? b = some o)
    (slot : ∀ b o, b ≠ X.env.locals → b ∈ X.fs → b ∉ ch → s.heap.get? b = some o → H b = none → ∃ sl, h'.get? b = some { o with slots := sl }) (free : ∀ b o, b ∉ ch → s.heap.get? b = some o → H b = none → H' b = none)
    (there : ∀ b o, b ∉ ch → s.heap.get? b = some o → ∃ o', h'.get? b = some o')
    (tups : ∀ b xs, H b = some (.tup xs) → H' b = some (.tup xs)) (frzs : ∀ b o u, H b = some (.frz o u) → H' b = some (.frz o u)) (tbls : ∀ b ps, H b = some (.tbl ps) → ∃ more, H' b = some (.tbl (ps ++ more)))
    (ns : ∀ m, s.heap.Ns X.env.locals m → h'.Ns X.env.locals m) (hok : HOk X.prog X.w H' h') (hg : AllBare g') :
    Inv X pins σ H' { s with heap := h', gens := g', drawn := d', toks := t' } := by
  have neL : ∀ b o, X.s₀.heap.get? b = some o → b ≠ X.env.locals := fun b o e => Nat.ne_of_lt (Nat.lt_of_lt_of_le (Heap.lt_size e) I.ok.above)
  have neC : ∀ b o, X.s₀.heap.get? b = some o → b ∉ X.ex → b ∉ ch := fun b o e hx hb => by
    rcases (hch b hb).1 with z | z
    · exact hx z
    · exact absurd (Nat.lt_of_lt_of_le (Heap.lt_size e) z) (Nat.lt_irrefl _)
  have cellK : ∀ x c, X.env.cells.lookup x = some c → ∀ v, s.heap.IsCell c v → h'.IsCell c v := fun x c e v ⟨o, ho, hd⟩ => by
    have nch : c ∉ ch := fun z => (hch c z).2.2.1 x c e rfl
    by_cases hc : c ∈ X.fs
    · obtain ⟨sl, q⟩ := slot c o (I.cne x c e) hc nch ho (I.freeC x c e)
      exact ⟨_, q, hd⟩
    · exact ⟨o, keep c o (I.cne x c e) hc nch ho (I.freeC x c e), hd⟩
  refine ⟨I.ok, I.os, hg, ⟨fun b o e n hb hx => ?_, fun b o e n hb hx => ?_, fun b o e n hx => ?_, fun b o e hx => ?_, fun b xs e => tups b xs (I.base.tups b xs e), fun b o xs e => frzs b o xs (I.base.frzs b o xs e), fun b ps e => ?_⟩, ?_, fun x c e => ?_, ?_, fun x c e => ?_, fun p hp => ?_, hok, I.len⟩
  · exact keep b o (neL b o e) hb (neC b o e hx) (I.base.keep b o e n hb hx) (I.base.free b o e n hx)
  · obtain ⟨sl, e1⟩ := I.base.slot b o e n hb hx
    obtain ⟨sl', e2⟩ := slot b _ (neL b o e) hb (neC b o e hx) e1 (I.base.free b o e n hx)
    exact ⟨sl', e2⟩
  · obtain ⟨o', e1⟩ := I.base.there b o e hx
    exact free b o' (neC b o e hx) e1 (I.base.free b o e n hx)
  · obtain ⟨o', e1⟩ := I.base.there b o e hx
    exact there b o' (neC b o e hx) e1
  · obtain ⟨m1, e1⟩ := I.base.tbls b ps e
    obtain ⟨m2, e2⟩ := tbls b _ e1
    exact ⟨m1 ++ m2, by rw [e2, Array.append_assoc]⟩
  · obtain ⟨m, hn, hl⟩ := I.loc
    refine ⟨m, ns m hn, fun i x v e1 e2 e3 => ?_⟩
    obtain ⟨u, r, l⟩ := hl i x v e1 e2 e3
    refine ⟨u, r, ?_⟩
    rcases l with l | ⟨k, c, e, z⟩
    · exact .inl l
    · exact .inr ⟨k, c, e, cellK x c e _ z⟩
  · obtain ⟨v, z⟩ := I.cell x c e
    exact ⟨v, cellK x c e v z⟩
  · obtain ⟨m, ⟨o, _, _, ho, _⟩, _⟩ := I.loc
    exact free _ o (fun z => (hch _ z).2.1 rfl) ho I.free
  · obtain ⟨v, o, ho, hd⟩ := I.cell x c e
    exact free c o (fun z => (hch c z).2.2.1 x c e rfl) ho (I.freeC x c e)
  · obtain ⟨e, n, ne, nf, d⟩ := I.pin p hp
    have nch : p.1 ∉ ch := fun z => (hch p.1 z).2.2.2 p hp rfl
    exact ⟨keep p.1 p.2 ne nf nch e n, free p.1 p.2 nch e n, ne, nf, d⟩
/-- .. where the frame's own object is kept too -/
theorem Inv.un {t' : Nat} (I : Inv X pins σ H s) (u : Un X.fs [] H H' s.heap h') (hok : HOk X.prog X.w H' h') : Inv X pins σ H' { s with heap := h', toks := t' } := by
  obtain ⟨m, ⟨o, es, ep, ho, r⟩, _⟩ := id I.loc
  obtain ⟨sl, hL⟩ := u.any ho I.free (by simp)
  exact I.step (g' := s.gens) (d' := s.drawn) (ch := []) (fun _ z => nomatch z) (fun b o _ hb _ e n => u.keep b o e n hb (by simp)) (fun b o _ hb _ e n => u.slot b o e n hb (by simp)) (fun b o _ e n => u.free b o e n (by simp)) (fun b o _ e => u.there b o e (by simp)) u.tups u.frzs u.tbls (fun m' hm => by
    obtain ⟨o', es', ep', ho', r'⟩ := hm
    rw [ho] at ho'; cases ho'
    exact ⟨_, es', ep', hL, r'⟩) hok I.bare
/-- behind a call (or a comprehension's block): the slots of this frame may have changed too, the records at ch may have turned -/
theorem Inv.call {g' : Array GenState} {t' : Nat} {d' : Drawn} {ch : List Addr} (I : Inv X pins σ H s) (u : Un (frs X.stack) ch H H' s.heap h') (hok : HOk X.prog X.w H' h') (hg : AllBare g')
    (hch : ∀ b ∈ ch, (b ∈ X.ex ∨ X.s₀.heap.objs.size ≤ b) ∧ b ≠ X.env.locals ∧ (∀ x c, X.env.cells.lookup x = some c → c ≠ b) ∧ ∀ p ∈ X.pn ++ pins, p.1 ≠ b) :
    Inv X pins σ H' { s with heap := h', gens := g', drawn := d', toks := t' } := by
  obtain ⟨m, ⟨o, es, ep, ho, r⟩, _⟩ := id I.loc
  obtain ⟨sl, hL⟩ := u.any ho I.free fun z => (hch _ z).2.1 rfl
  exact I.step (ch := ch) hch (fun b o hL hb hc e n => u.keep b o e n (fun z => (List.mem_cons.mp (I.stkSub b z)).elim hL hb) hc) (fun b o _ _ hc e n => u.any e n hc) (fun b o hc e n => u.free b o e n hc) (fun b o hc e => u.there b o e hc) u.tups u.frzs u.tbls (fun m' hm => by
    obtain ⟨o', es', ep', ho', r'⟩ := hm
    rw [ho] at ho'; cases ho'
    exact ⟨_, es', ep', hL, r'⟩) hok hg
/-- an untracked record of ours (an iterator) has turned -/
theorem Inv.turned {t' : Nat} {it : Addr} (I : Inv X pins σ H s) (k : ∀ b o, b ≠ it → s.heap.get? b = some o → h'.get? b = some o) (hn : H it = none) (hL : it ≠ X.env.locals)
    (h1 : it ∈ X.ex ∨ X.s₀.heap.objs.size ≤ it) (h2 : ∀ x c, X.env.cells.lookup x = some c → c ≠ it) (h3 : ∀ p ∈ X.pn ++ pins, p.1 ≠ it) : Inv X pins σ H { s with heap := h', toks := t' } := by
  have nit : ∀ b u, H b = some u → b ≠ it := fun b u e z => by rw [z, hn] at e; cases e
  refine I.step (g' := s.gens) (d' := s.drawn) (ch := [it]) (fun b hb => ?_) (fun b o _ _ hc e _ => k b o (fun z => hc (by simp [z])) e) (fun b o _ _ hc e _ => ⟨o.slots, k b o (fun z => hc (by simp [z])) e⟩) (fun _ _ _ _ n => n)
    (fun b o hc e => ⟨o, k b o (fun z => hc (by simp [z])) e⟩) (fun _ _ e => e) (fun _ _ _ e => e) (fun b ps e => ⟨#[], by rw [e]; simp⟩) (fun m hm => ?_) (fun b u e => ?_) I.bare
  · have e : b = it := by simpa using hb
    subst e
    exact ⟨h1, hL, h2, h3⟩
  · obtain ⟨o, es, ep, ho, r⟩ := hm
    exact ⟨o, es, ep, k _ o (Ne.symm hL) ho, r⟩
  · refine (I.hok b u e).stay (fun c v hc q => k c v ?_ q) (fun _ q => q) fun _ _ q => q
    rcases hc with z | z
    · rw [z]; exact nit b u e
    · exact nit c _ z
theorem Inv.tok (I : Inv X pins σ H s) (t : Nat) : Inv X pins σ H { s with toks := t } := I.un (h' := s.heap) (t' := t) Un.refl I.hok
/-- all objects kept -/
theorem Inv.kept {t' : Nat} (I : Inv X pins σ H s) (k : ∀ b u, s.heap.get? b = some u → h'.get? b = some u) : Inv X pins σ H { s with heap := h', toks := t' } := I.un (Un.kept k) (I.hok.kept k)
/-- a new object laid and tracked -/
theorem Inv.laid {a : Addr} {o : HO} {t' : Nat} (I : Inv X pins σ H s) (k : ∀ b u, s.heap.get? b = some u → h'.get? b = some u) (hp : s.heap.objs.size ≤ a) (new : ObjOk X.prog X.w (upd H a o) h' a o) :
    Inv X pins σ (upd H a o) { s with heap := h', toks := t' } := I.un (Un.laid k hp (I.hok.fresh hp)) (I.hok.laid k hp new)
/-- an object written -/
theorem Inv.write {x e : Addr} {o : HO} {t' : Nat} (I : Inv X pins σ H s) (mu : Mut (H x)) (he : e = x ∨ H e = some (.own x)) (k : ∀ b u, b ≠ e → s.heap.get? b = some u → h'.get? b = some u) (heo : ∃ u, h'.get? e = some u)
    (new : ObjOk X.prog X.w (upd H x o) h' x o) : Inv X pins σ (upd H x o) { s with heap := h', toks := t' } := I.un (Un.write mu he k heo) (I.hok.write mu he k heo new)
theorem Inv.pins_of {pins' : List (Addr × Obj)} (I : Inv X pins σ H s) (h : ∀ p ∈ pins', s.heap.get? p.1 = some p.2 ∧ H p.1 = none ∧ p.1 ≠ X.env.locals ∧ p.1 ∉ X.fs ∧ ∀ v, p.2.data ≠ .cell v) : Inv X pins' σ H s :=
  ⟨I.ok, I.os, I.bare, I.base, I.loc, I.cell, I.free, I.freeC, fun p hp => (List.mem_append.mp hp).elim (fun z => I.pin p (List.mem_append_left _ z)) (h p), I.hok, I.len⟩

theorem nodup_ix {N : List Str} (hN : N.Nodup) {i j : Nat} {x : Str} (a : N[i]? = some x) (b : N[j]? = some x) : i = j := by
  obtain ⟨h1, e1⟩ := List.getElem?_eq_some_iff.mp a
  obtain ⟨h2, e2⟩ := List.getElem?_eq_some_iff.mp b
  exact (List.getElem_inj hN).mp (e1.trans e2.symm)

/-- a name is stored; what changed -/
theorem store_ok2 {M : Model} {A : Around} {E : Value → Shared → Prop} {i : Nat} {x : Str} {v : V} {u : Value} {Q : Unit → Shared → Prop} (I : Inv X pins σ H s) (hN : X.N.Nodup) (hi : X.N[i]? = some x) (hx : Loc X.env.scope x) (r : RelV v u)
    (h : ∀ s', Inv X pins (σ.set i (some v)) H s' → (∃ a, Heap.SameBut a s.heap s'.heap ∧ (a = X.env.locals ∨ X.env.cells.lookup x = some a)) → Q () s') (hf : X.fn x = true ∨ X.env.scope.names.lookup x = some .local := by first | exact .inl rfl | exact .inr rfl | assumption) : wpAny M A (storeName X.env x u) Q E s := by
  obtain ⟨m, hn, hl⟩ := id I.loc
  have hcls : (X.env.scope.kind == .class || (X.env.scope.kind == .module && X.env.locals != X.env.globals)) = false := by rw [I.ok.kind]; rfl
  have hiσ : i < σ.length := by rw [I.len]; exact (List.getElem?_eq_some_iff.mp hi).1
  have cne := I.cne
  have tracked : ∀ {a : Addr} {h' : Heap}, (∃ o, s.heap.get? a = some o ∧ H a = none) → Heap.SameBut a s.heap h' → HOk X.prog X.w H h' := fun {a h'} ha hs b ob e => by
    obtain ⟨_, _, hfree⟩ := ha
    refine (I.hok b ob e).stay (fun c w' hc q => (hs.2 c ?_).trans q) (fun _ q => q) fun _ _ q => q
    rintro rfl
    rcases hc with rfl | hc
    · rw [hfree] at e; cases e
    · rw [hfree] at hc; cases hc
  rcases hx with hk | hk
  · refine wpAny_storeName_local hk hn (fun h' hn' hs => ?_) hcls
    obtain ⟨oL, _, _, hoL, _⟩ := id hn
    refine h _ ⟨I.ok, I.os, I.bare, ⟨fun b o e n hb hx => ?_, fun b o e n hb hx => ?_, I.base.free, fun b o e hx => ?_, I.base.tups, I.base.frzs, I.base.tbls⟩, ⟨_, hn', fun j y v' e1 e2 e3 => ?_⟩, fun y c e => ?_, I.free, I.freeC, fun p hp => ?_, tracked ⟨oL, hoL, I.free⟩ hs, by simpa using I.len⟩ ⟨_, hs, .inl rfl⟩
    · exact (hs.2 b (Nat.ne_of_lt (Nat.lt_of_lt_of_le (Heap.lt_size e) I.ok.above))).trans (I.base.keep b o e n hb hx)
    · obtain ⟨sl, e1⟩ := I.base.slot b o e n hb hx
      exact ⟨sl, (hs.2 b (Nat.ne_of_lt (Nat.lt_of_lt_of_le (Heap.lt_size e) I.ok.above))).trans e1⟩
    · obtain ⟨o', e1⟩ := I.base.there b o e hx
      exact ⟨o', (hs.2 b (Nat.ne_of_lt (Nat.lt_of_lt_of_le (Heap.lt_size e) I.ok.above))).trans e1⟩
    · by_cases hj : j = i
      · subst hj
        rw [hi] at e1; cases e1
        rw [List.getElem?_set_self hiσ] at e2
        cases e2
        exact ⟨u, r, .inl ⟨hk, by simp⟩⟩
      · rw [List.getElem?_set_ne (Ne.symm hj)] at e2
        obtain ⟨u', r', q⟩ := hl j y v' e1 e2 e3
        refine ⟨u', r', ?_⟩
        rcases q with ⟨k, e⟩ | ⟨k, c, e, z⟩
        · refine .inl ⟨k, ?_⟩
          have : y ≠ x := fun e => hj (nodup_ix hN e1 (e ▸ hi))
          simp [this, e]
        · exact .inr ⟨k, c, e, z.sameBut hs (cne y c e)⟩
    · obtain ⟨w', z⟩ := I.cell y c e
      exact ⟨w', z.sameBut hs (cne y c e)⟩
    · obtain ⟨e, n, ne, nf, d⟩ := I.pin p hp
      exact ⟨(hs.2 p.1 ne).trans e, n, ne, nf, d⟩
  · have hfn : X.fn x = true := by
      rcases hf with z | z
      · exact z
      · rw [z] at hk; cases hk
    obtain ⟨c, hc⟩ := I.ok.has x (.inl hk)
    obtain ⟨w', z⟩ := I.cell x c hc
    refine wpAny_storeName_cell I.ok.kind hk hc z (fun h' hc' hs => ?_)
    obtain ⟨oc, hoc, hocd⟩ := id z
    refine h { s with heap := h' } ⟨I.ok, I.os, I.bare, ⟨fun b o e n hb hx => ?_, fun b o e n hb hx => ?_, I.base.free, fun b o e hx => ?_, I.base.tups, I.base.frzs, I.base.tbls⟩, ⟨m, hn.sameBut hs (Ne.symm (cne x c hc)), fun j y v' e1 e2 e3 => ?_⟩, fun y c' e => ?_, I.free, I.freeC, fun p hp => ?_, tracked ⟨oc, hoc, I.freeC x c hc⟩ hs, by simpa using I.len⟩ ⟨c, hs, .inr hc⟩
    · exact (hs.2 b (Nat.ne_of_lt (Nat.lt_of_lt_of_le (Heap.lt_size e) (I.ok.cab x c hfn hc)))).trans (I.base.keep b o e n hb hx)
    · obtain ⟨sl, e1⟩ := I.base.slot b o e n hb hx
      exact ⟨sl, (hs.2 b (Nat.ne_of_lt (Nat.lt_of_lt_of_le (Heap.lt_size e) (I.ok.cab x c hfn hc)))).trans e1⟩
    · obtain ⟨o', e1⟩ := I.base.there b o e hx
      exact ⟨o', (hs.2 b (Nat.ne_of_lt (Nat.lt_of_lt_of_le (Heap.lt_size e) (I.ok.cab x c hfn hc)))).trans e1⟩
    · by_cases hj : j = i
      · subst hj
        rw [hi] at e1; cases e1
        rw [List.getElem?_set_self hiσ] at e2
        cases e2
        exact ⟨u, r, .inr ⟨.inl hk, c, hc, hc'⟩⟩
      · rw [List.getElem?_set_ne (Ne.symm hj)] at e2
        obtain ⟨u', r', q⟩ := hl j y v' e1 e2 e3
        refine ⟨u', r', ?_⟩
        rcases q with q | ⟨k, c', e, z'⟩
        · exact .inl q
        · refine .inr ⟨k, c', e, z'.sameBut hs ?_⟩
          rintro rfl
          exact hj (nodup_ix hN e1 (I.ok.inj _ _ _ e hc ▸ hi))
    · by_cases hcc : c' = c
      · subst hcc; exact ⟨_, hc'⟩
      · obtain ⟨w2, z2⟩ := I.cell y c' e
        exact ⟨w2, z2.sameBut hs hcc⟩
    · obtain ⟨e, n, ne, nf, d⟩ := I.pin p hp
      refine ⟨(hs.2 p.1 ?_).trans e, n, ne, nf, d⟩
      intro q
      rw [q, hoc] at e
      have q' : oc = p.2 := Option.some.inj e
      exact d w' (by rw [← q']; exact hocd)
theorem store_ok {M : Model} {A : Around} {E : Value → Shared → Prop} {i : Nat} {x : Str} {v : V} {u : Value} {Q : Unit → Shared → Prop} (I : Inv X pins σ H s) (hN : X.N.Nodup) (hi : X.N[i]? = some x) (hx : Loc X.env.scope x) (r : RelV v u)
    (h : ∀ s', Inv X pins (σ.set i (some v)) H s' → Q () s') (hf : X.fn x = true ∨ X.env.scope.names.lookup x = some .local := by first | exact .inl rfl | exact .inr rfl | assumption) : wpAny M A (storeName X.env x u) Q E s :=
  store_ok2 I hN hi hx r (fun s' I' _ => h s' I') hf
/-- behind a call or a block, the state as it is -/
theorem Inv.call' {s' : Shared} {ch : List Addr} (I : Inv X pins σ H s) (ho : s'.os = s.os) (u : Un (frs X.stack) ch H H' s.heap s'.heap) (hok : HOk X.prog X.w H' s'.heap) (hg : AllBare s'.gens)
    (hch : ∀ b ∈ ch, (b ∈ X.ex ∨ X.s₀.heap.objs.size ≤ b) ∧ b ≠ X.env.locals ∧ (∀ x c, X.env.cells.lookup x = some c → c ≠ b) ∧ ∀ p ∈ X.pn ++ pins, p.1 ≠ b) : Inv X pins σ H' s' := by
  obtain ⟨h', g', d', t', o'⟩ := s'
  have e : o' = s.os := ho
  subst e
  exact I.call (g' := g') (t' := t') (d' := d') u hok hg hch
end

/-- an exception: its class, its own dict's address (where it has one), the abstract heap behind it -/
abbrev XK := Value → Option Addr → Hp → Prop
abbrev St := List (Option V)
abbrev VK := V → Hp → Prop
/-- an expression's reading; a test's; an argument list's -/
abbrev TE := St → Hp → VK → Prop
abbrev TT := St → Hp → (Bool → Hp → Prop) → Prop
abbrev TA := St → Hp → (List V → Hp → Prop) → Prop
/-- what is wanted behind a statement -/
structure Ends where
  nx : St → Hp → Prop
  rt : VK
  bk : St → Hp → Prop := fun _ _ => False
  ct : St → Hp → Prop := fun _ _ => False
abbrev TS := Ends → St → Hp → Prop

def EP (X : Cx) (pins : List (Addr × Obj)) (σ : St) (Q : VK) (u : Value) (s' : Shared) : Prop := ∃ v H', Inv X pins σ H' s' ∧ RelV v u ∧ Q v H'
def TP (X : Cx) (pins : List (Addr × Obj)) (σ : St) (Q : Bool → Hp → Prop) (b : Bool) (s' : Shared) : Prop := ∃ H', Inv X pins σ H' s' ∧ Q b H'
def AP (X : Cx) (pins : List (Addr × Obj)) (σ : St) (Q : List V → Hp → Prop) (us : List Value) (s' : Shared) : Prop := ∃ vs H', Inv X pins σ H' s' ∧ Vals vs us ∧ Q vs H'
def SP (X : Cx) (pins : List (Addr × Obj)) (D : Ends) (f : Flow) (s' : Shared) : Prop :=
  match f with
  | .next => ∃ σ' H', Inv X pins σ' H' s' ∧ D.nx σ' H'
  | .brk => ∃ σ' H', Inv X pins σ' H' s' ∧ D.bk σ' H'
  | .cont => ∃ σ' H', Inv X pins σ' H' s' ∧ D.ct σ' H'
  | .ret u => ∃ v σ' H', Inv X pins σ' H' s' ∧ RelV v u ∧ D.rt v H'

def PE (X : Cx) (e : Expr) (t : TE) : Prop :=
  ∀ (pins : List (Addr × Obj)) (s : Shared) (σ : St) (H : Hp) (Q : VK), Inv X pins σ H s → t σ H Q → wpAny (model X.prog X.w) X.A (eval e X.env) (EP X pins σ Q) X.xe s
def PT (X : Cx) (e : Expr) (t : TT) : Prop :=
  ∀ (pins : List (Addr × Obj)) (s : Shared) (σ : St) (H : Hp) (Q : Bool → Hp → Prop), Inv X pins σ H s → t σ H Q → wpAny (model X.prog X.w) X.A (isTrue e X.env (eval e X.env)) (TP X pins σ Q) X.xe s
/-- a test whatever its 'whole' is (and, or) -/
def PW (X : Cx) (e : Expr) (t : TT) : Prop :=
  ∀ (whole : Sem Value) (pins : List (Addr × Obj)) (s : Shared) (σ : St) (H : Hp) (Q : Bool → Hp → Prop), Inv X pins σ H s → t σ H Q → wpAny (model X.prog X.w) X.A (isTrue e X.env whole) (TP X pins σ Q) X.xe s
theorem PW.pt {X : Cx} {e : Expr} {t : TT} (h : PW X e t) : PT X e t := h _
/-- an argument list (no star), from the left -/
def PA (X : Cx) (es : List Expr) (t : TA) : Prop :=
  ∀ (pos : Pos) (pins : List (Addr × Obj)) (s : Shared) (σ : St) (H : Hp) (Q : List V → Hp → Prop), Inv X pins σ H s → t σ H Q → wpAny (model X.prog X.w) X.A (spliced (backTo pos (starEach es X.env))) (AP X pins σ Q) X.xe s
def PS (X : Cx) (st : Stmt) (t : TS) : Prop :=
  ∀ (pins : List (Addr × Obj)) (s : Shared) (σ : St) (H : Hp) (D : Ends), Inv X pins σ H s → t D σ H → wpAny (model X.prog X.w) X.A (exec st X.env) (SP X pins D) X.xe s
def PSs (X : Cx) (st : List Stmt) (t : TS) : Prop :=
  ∀ (pins : List (Addr × Obj)) (s : Shared) (σ : St) (H : Hp) (D : Ends), Inv X pins σ H s → t D σ H → wpAny (model X.prog X.w) X.A (execs st X.env) (SP X pins D) X.xe s
/-- weaken the end -/
theorem thn {α : Type} {t : Sem α} {Q Q' : α → Shared → Prop} {M : Model} {A : Around} {E : Value → Shared → Prop} {s : Shared} (h : wpAny M A t Q E s) (hQ : ∀ a s, Q a s → Q' a s) : wpAny M A t Q' E s := wpAny_mono h hQ fun _ _ x => x
end L2

namespace L2
open PySem PySem.Spec PyProof.Rows
section
variable {X : Cx}

def tVar (i : Nat) : TE := fun σ H Q => ∃ v, σ[i]? = some (some v) ∧ Q v H
def tC (v : V) : TE := fun _ H Q => Q v H
theorem pe_var {i : Nat} {x : Str} {pos : Pos} (hN : X.N[i]? = some x) (hv : Vis X.env.scope x) (hd : (x == ("__debug__" : Str)) = false := by decide) (hcd : (x == ("__classdict__" : Str)) = false := by decide) : PE X (.Name x pos) (tVar i) := by
  intro pins s σ H Q I h
  obtain ⟨v, e, h⟩ := h
  obtain ⟨m, hn, hl⟩ := I.loc
  obtain ⟨u, r, l⟩ := hl i x v hN e hv
  have fin : EP X pins σ Q u s := ⟨v, H, I, r, h⟩
  rcases l with ⟨hk, hm⟩ | ⟨hk, c, hc, hcell⟩
  · exact wpAny_Name (wpAny_loadName_local I.ok.kind hk hn hm fin) hd
  · rcases hk with hk | hk
    · exact wpAny_Name (wpAny_loadName_cell I.ok.kind hk hc hcell fin) hd
    · exact wpAny_Name (wpAny_loadName_free I.ok.kind hk hc hcell fin hcd) hd
theorem pe_int {i j pos} : PE X (.Constant (.int i) j pos) (tC (.int i)) := fun _ _ _ H _ I h => wpAny_Constant_int ⟨.int i, H, I.tok _, ⟨_, rfl⟩, h⟩
theorem pe_bl {b j pos} : PE X (.Constant (.bool b) j pos) (tC (.bl b)) := fun _ _ _ H _ I h => Constant_bool ⟨.bl b, H, I, rfl, h⟩
theorem pe_str {x j pos} : PE X (.Constant (.str x) j pos) (tC (.str x)) := fun _ _ _ H _ I h => Calls.Constant_str ⟨.str x, H, I.tok _, ⟨_, rfl⟩, h⟩

/-- a global name of the def -/
def Gl (X : Cx) (x : Str) : Prop := X.env.kindOf x = some .globalImplicit
theorem ld_glob {E : Value → Shared → Prop} {pins : List (Addr × Obj)} {s : Shared} {σ : St} {H : Hp} {x : Str} {u : Value} {pos : Pos} {Q : Value → Shared → Prop} (I : Inv X pins σ H s) (hg : Gl X x) (hm : X.mg x = some u) (h : Q u s)
    (hd : (x == ("__debug__" : Str)) = false := by decide) : wpAny (model X.prog X.w) X.A (eval (.Name x pos) X.env) Q E s :=
  Calls.Name_function_global I.ok.kind hg (Calls.loadGlobal_global (by rw [I.ok.glob]; exact I.mod.glob.keeps I.bk) hm h) hd
theorem ld_blt {E : Value → Shared → Prop} {pins : List (Addr × Obj)} {s : Shared} {σ : St} {H : Hp} {x : Str} {u : Value} {pos : Pos} {Q : Value → Shared → Prop} (I : Inv X pins σ H s) (hg : Gl X x) (hm : X.mg x = none) (hv : bootBuiltins x = some u) (h : Q u s)
    (hn : x ≠ "__name__" := by decide) (hd : (x == ("__debug__" : Str)) = false := by decide) : wpAny (model X.prog X.w) X.A (eval (.Name x pos) X.env) Q E s := by
  obtain ⟨mb, h1, h2⟩ := I.mod.blt
  exact Calls.Name_function_global I.ok.kind hg (Calls.loadGlobal_builtin (by rw [I.ok.glob]; exact I.mod.glob.keeps I.bk) hm (by rw [I.ok.blt]; exact h1.keeps I.bk) ((h2 x hn).trans hv) h) hd
/-- a module's constant, a class, a function, as a value -/
theorem pe_glob {x : Str} {v : V} {u : Value} {pos : Pos} (hg : Gl X x) (hm : X.mg x = some u) (r : RelV v u) (hd : (x == ("__debug__" : Str)) = false := by decide) : PE X (.Name x pos) (tC v) :=
  fun _ _ _ H _ I h => ld_glob I hg hm ⟨v, H, I, r, h⟩ hd
theorem pe_bltn {x : Str} {v : V} {u : Value} {pos : Pos} (hg : Gl X x) (hm : X.mg x = none) (hv : bootBuiltins x = some u) (r : RelV v u) (hn : x ≠ "__name__" := by decide) (hd : (x == ("__debug__" : Str)) = false := by decide) : PE X (.Name x pos) (tC v) :=
  fun _ _ _ H _ I h => ld_blt I hg hm hv ⟨v, H, I, r, h⟩ hn hd

variable {a b : Expr} {ta tb : TE} {pos : Pos}
/-- a comparison as a value, as a test -/
def tB (t : TE) : TT := fun σ H Q => t σ H fun x H1 => ∃ c, x = .bl c ∧ Q c H1
/-- an expression whose value is a bool, as a test -/
theorem pt_val {e : Expr} {t : TE} (h : PE X e t) (he : ∀ whole, isTrue e X.env whole = (do let v ← whole; standAt e.pos; holding [v] (truthy v)) := by intro _; rfl) : PT X e (tB t) := by
  intro pins s σ H Q I hw
  refine isTrue_plain (thn (h pins s σ H _ I hw) fun v s1 ⟨x, H1, I1, r1, q1⟩ => ?_) (he _)
  obtain ⟨d, rfl, q⟩ := q1
  cases r1
  exact wpAny_truthy_bool ⟨H1, I1, q⟩

variable {tA tB' : TT} {rest : List Expr}
def tAnd (t u : TT) : TT := fun σ H Q => t σ H fun c H1 => if c = true then u σ H1 Q else Q false H1
def tOr (t u : TT) : TT := fun σ H Q => t σ H fun c H1 => if c = true then Q true H1 else u σ H1 Q
def tNot (t : TT) : TT := fun σ H Q => t σ H fun c H1 => Q (!c) H1
theorem pw_and1 (ha : PT X a tA) : PW X (.BoolOp .And [a] pos) tA := by
  intro wh pins s σ H Q I h
  refine isTrue_and (thn (ha pins s σ H Q I h) fun c s1 e => ?_)
  cases c with
  | true => exact isTrue_and_nil e
  | false => exact e
theorem pw_or1 (ha : PT X a tA) : PW X (.BoolOp .Or [a] pos) tA := by
  intro wh pins s σ H Q I h
  refine isTrue_or (thn (ha pins s σ H Q I h) fun c s1 e => ?_)
  cases c with
  | false => exact isTrue_or_nil e
  | true => exact e
theorem pw_and (ha : PT X a tA) (hb : PW X (.BoolOp .And (b :: rest) pos) tB') : PW X (.BoolOp .And (a :: b :: rest) pos) (tAnd tA tB') := by
  intro wh pins s σ H Q I h
  refine isTrue_and (thn (ha pins s σ H _ I h) fun c s1 ⟨H1, I1, q1⟩ => ?_)
  cases c with
  | true => exact hb wh pins s1 σ H1 Q I1 q1
  | false => exact ⟨H1, I1, q1⟩
theorem pw_or (ha : PT X a tA) (hb : PW X (.BoolOp .Or (b :: rest) pos) tB') : PW X (.BoolOp .Or (a :: b :: rest) pos) (tOr tA tB') := by
  intro wh pins s σ H Q I h
  refine isTrue_or (thn (ha pins s σ H _ I h) fun c s1 ⟨H1, I1, q1⟩ => ?_)
  cases c with
  | true => exact ⟨H1, I1, q1⟩
  | false => exact hb wh pins s1 σ H1 Q I1 q1
theorem pt_not (ha : PT X a tA) : PT X (.UnaryOp .Not a pos) (tNot tA) := by
  intro pins s σ H Q I h
  exact isTrue_not (ha pins s σ H (fun c H1 => Q (!c) H1) I h)
/-- .. as values (bools) -/
def tAndV (ta tb : TE) : TE := fun σ H Q => ta σ H fun x H1 => ∃ c, x = .bl c ∧ if c = true then tb σ H1 Q else Q (.bl false) H1
def tNotV (ta : TE) : TE := fun σ H Q => ta σ H fun x H1 => ∃ c, x = .bl c ∧ Q (.bl (!c)) H1
theorem pe_one {op} {t : TE} (h : PE X a t) : PE X (.BoolOp op [a] pos) t := fun pins s σ H Q I hw => BoolOp_one (h pins s σ H Q I hw)
theorem pe_and (ha : PE X a ta) (hb : PE X (.BoolOp .And (b :: rest) pos) tb) : PE X (.BoolOp .And (a :: b :: rest) pos) (tAndV ta tb) := by
  intro pins s σ H Q I h
  refine BoolOp_and (thn (ha pins s σ H _ I h) fun v s1 ⟨x, H1, I1, r1, q1⟩ => ?_)
  obtain ⟨c, rfl, q1⟩ := q1
  cases r1
  refine wpAny_truthy_bool ?_
  cases c with
  | true => exact hb pins s1 σ H1 Q I1 q1
  | false => exact ⟨.bl false, H1, I1, rfl, q1⟩
theorem pe_not (ha : PE X a ta) : PE X (.UnaryOp .Not a pos) (tNotV ta) := by
  intro pins s σ H Q I h
  refine UnaryOp_ (thn (ha pins s σ H _ I h) fun v s1 ⟨x, H1, I1, r1, q1⟩ => ?_)
  obtain ⟨c, rfl, q1⟩ := q1
  cases r1
  exact not_of (wpAny_truthy_bool ⟨.bl (!c), H1, I1, rfl, q1⟩)
end
end L2

namespace L2
open PySem PySem.Spec PyProof.Rows

def SqL (K : PySem.W.Frag) (H : Hp) (a : Addr) (xs : List V) : Prop :=
  Rd H a (.lst xs) ∨
    ∃ (o : Obj) (its : Array Value) (n : Nat), K.lookup a = some o ∧ o.cls = .type "list" ∧ o.dict = none ∧ o.data = .seq its n ∧ its.size ≤ sizeLine ∧ Vals xs its.toList
def SqT (K : PySem.W.Frag) (H : Hp) (a : Addr) (xs : List V) : Prop :=
  Rd H a (.tup xs) ∨
    ∃ (o : Obj) (its : Array Value) (n : Nat), K.lookup a = some o ∧ o.cls = .type "tuple" ∧ o.data = .seq its n ∧ its.size ≤ sizeLine ∧ Vals xs its.toList
def absV : Value → Option V
  | .none => some .non
  | .bool b => some (.bl b)
  | .int i _ => some (.int i)
  | .str x _ => some (.str x)
  | .bytes b _ => some (.byt b)
  | .float b _ => some (.flt b)
  | .ref a => some (.ref a)
  | .type n => some (.ty n)
  | _ => none
theorem RelV.abs {x : V} {u : Value} (r : RelV x u) : absV u = some x := by
  cases x with
  | non => cases r; rfl
  | bl _ => cases r; rfl
  | int _ => obtain ⟨t, rfl⟩ := r; rfl
  | str _ => obtain ⟨t, rfl⟩ := r; rfl
  | byt _ => obtain ⟨t, rfl⟩ := r; rfl
  | flt _ => obtain ⟨t, rfl⟩ := r; rfl
  | ref _ => cases r; rfl
  | ty _ => cases r; rfl
theorem RelV.inj {x y : V} {u : Value} (r : RelV x u) (q : RelV y u) : x = y := Option.some.inj (r.abs.symm.trans q.abs)
theorem Vals.inj : ∀ {xs ys : List V} {us : List Value}, Vals xs us → Vals ys us → xs = ys
  | _, _, _, .nil, .nil => rfl
  | _, _, _, .cons r t, .cons r' t' => by rw [r.inj r', Vals.inj t t']
section
variable {X : Cx} {pins : List (Addr × Obj)} {σ : St} {H : Hp} {s : Shared} {a : Addr} {xs ys : List V}
theorem SqL.of {K : PySem.W.Frag} (h : H a = some (.lst xs)) : SqL K H a xs := .inl (.inl h)
theorem SqT.of {K : PySem.W.Frag} (h : H a = some (.tup xs)) : SqT K H a xs := .inl (.inl h)
theorem Inv.list (I : Inv X pins σ H s) (h : SqL X.K H a xs) : ∃ its : List Value, Vals xs its ∧ PlainL s.heap a its.toArray ∧ xs.length ≤ sizeLine := by
  rcases h with h | ⟨o, its, n, hk, hc, hd, hs, hz, r⟩
  · obtain ⟨z, its, n, r, e⟩ := h.ok I.hok
    exact ⟨its, r, ⟨_, n, e, rfl, rfl, rfl⟩, z⟩
  · refine ⟨its.toList, r, ⟨o, n, I.kIn a o hk, hc, hd, by simpa using hs⟩, ?_⟩
    have e := r.length
    simp only [Array.length_toList] at e
    omega
theorem Inv.tuple (I : Inv X pins σ H s) (h : SqT X.K H a xs) : ∃ its : List Value, Vals xs its ∧ IsTup s.heap a its.toArray ∧ xs.length ≤ sizeLine := by
  rcases h with h | ⟨o, its, n, hk, hc, hs, hz, r⟩
  · obtain ⟨z, its, r, p⟩ := h.ok I.hok
    exact ⟨its, r, p, z⟩
  · refine ⟨its.toList, r, ⟨o, I.kIn a o hk, hc, n, by simpa using hs⟩, ?_⟩
    have e := r.length
    simp only [Array.length_toList] at e
    omega
theorem Inv.list_inj (I : Inv X pins σ H s) (h : SqL X.K H a xs) (h' : SqL X.K H a ys) : xs = ys := by
  obtain ⟨its, r, ⟨o, n, e, _, _, d⟩, _⟩ := I.list h
  obtain ⟨its', r', ⟨o', n', e', _, _, d'⟩, _⟩ := I.list h'
  rw [e] at e'; cases e'
  rw [d] at d'
  injection d' with d1 _
  have : its = its' := by simpa using congrArg Array.toList d1
  subst this
  exact r.inj r'
end

abbrev Cx.wish (X : Cx) (E : Value → Shared → Prop) : Cx := { X with xe := E }
/-- no exception leaves -/
abbrev Cx.nox (X : Cx) : Cx := X.wish fun _ _ => False
theorem Cx.Ok.wish {X : Cx} (ok : X.Ok) (E : Value → Shared → Prop) : (X.wish E).Ok :=
  ⟨ok.mod, ok.kind, ok.glob, ok.blt, ok.above, ok.inj, ok.has, ok.cab, ok.hd, ok.frames, ok.stk, ok.exf, ok.bs, ok.bsz, ok.noex, ok.exfs, ok.funs, ok.frf⟩
theorem Cx.Ok.unwish {X : Cx} {E : Value → Shared → Prop} (ok : (X.wish E).Ok) : X.Ok :=
  ⟨ok.mod, ok.kind, ok.glob, ok.blt, ok.above, ok.inj, ok.has, ok.cab, ok.hd, ok.frames, ok.stk, ok.exf, ok.bs, ok.bsz, ok.noex, ok.exfs, ok.funs, ok.frf⟩
section
variable {X : Cx} {pins : List (Addr × Obj)} {σ : St} {H : Hp} {s : Shared} {E : Value → Shared → Prop}
theorem Inv.wish (I : Inv X pins σ H s) (E : Value → Shared → Prop) : Inv (X.wish E) pins σ H s := ⟨I.ok.wish E, I.os, I.bare, I.base, I.loc, I.cell, I.free, I.freeC, I.pin, I.hok, I.len⟩
theorem Inv.unwish (I : Inv (X.wish E) pins σ H s) : Inv X pins σ H s := ⟨I.ok.unwish, I.os, I.bare, I.base, I.loc, I.cell, I.free, I.freeC, I.pin, I.hok, I.len⟩
theorem SP.unwish {D : Ends} {f : Flow} {s' : Shared} (h : SP (X.wish E) pins D f s') : SP X pins D f s' := by
  cases f with
  | next => obtain ⟨σ', H', I, q⟩ := h; exact ⟨σ', H', I.unwish, q⟩
  | brk => obtain ⟨σ', H', I, q⟩ := h; exact ⟨σ', H', I.unwish, q⟩
  | cont => obtain ⟨σ', H', I, q⟩ := h; exact ⟨σ', H', I.unwish, q⟩
  | ret u => obtain ⟨v, σ', H', I, r, q⟩ := h; exact ⟨v, σ', H', I.unwish, r, q⟩
theorem PE.nox {e : Expr} {t : TE} (h : PE X.nox e t) : PE X e t := fun pins s σ H Q I hw =>
  wpAny_mono (h pins s σ H Q (I.wish _) hw) (fun _ _ ⟨v, H', I', r, q⟩ => ⟨v, H', I'.unwish, r, q⟩) fun _ _ z => False.elim z
theorem PT.nox {e : Expr} {t : TT} (h : PT X.nox e t) : PT X e t := fun pins s σ H Q I hw =>
  wpAny_mono (h pins s σ H Q (I.wish _) hw) (fun _ _ ⟨H', I', q⟩ => ⟨H', I'.unwish, q⟩) fun _ _ z => False.elim z
theorem PSs.nox {st : List Stmt} {t : TS} (h : PSs X.nox st t) : PSs X st t := fun pins s σ H D I hw =>
  wpAny_mono (h pins s σ H D (I.wish _) hw) (fun _ _ q => q.unwish) fun _ _ z => False.elim z
end

section
variable {X : Cx} {st : Stmt} {rest : List Stmt} {t u : TS} {e : Expr} {te : TE} {pos : Pos}
def tNext : TS := fun D σ H => D.nx σ H
def tSeq (t u : TS) : TS := fun D σ H => t { D with nx := u D } σ H
theorem pss_nil : PSs X [] tNext := fun _ _ σ H _ I h => wpAny_execs_nil ⟨σ, H, I, h⟩
theorem pss_cons (h1 : PS X st t) (h2 : PSs X rest u) : PSs X (st :: rest) (tSeq t u) := by
  intro pins s σ H D I h
  refine wpAny_execs_cons (thn (h1 pins s σ H { D with nx := u D } I h) fun f s1 q => ?_)
  cases f with
  | next =>
    obtain ⟨σ', H', I', q⟩ := q
    exact h2 pins s1 σ' H' D I' q
  | ret v => exact q
  | brk => exact q
  | cont => exact q
theorem pss_one (h1 : PS X st t) : PSs X [st] t := by
  intro pins s σ H D I h
  refine wpAny_execs_cons (thn (h1 pins s σ H D I h) fun f s1 q => ?_)
  cases f with
  | next => exact wpAny_execs_nil q
  | ret v => exact q
  | brk => exact q
  | cont => exact q
/-- in a def's body nothing is shown -/
theorem Inv.quiet {pins : List (Addr × Obj)} {σ : St} {H : Hp} {s : Shared} (I : Inv X pins σ H s) : interactive X.env = false := by simp [interactive, I.ok.kind]
/-- an expression whose value is dropped -/
def tDrop (te : TE) : TS := fun D σ H => te σ H fun _ H1 => D.nx σ H1
theorem ps_expr (he : PE X e te) (hs : swapsWith e none pos.line X.env = pure false := by rfl) : PS X (.Expr e pos) (tDrop te) := by
  intro pins s σ H D I h
  exact wpAny_Expr_any (thn (he pins s σ H _ I h) fun v s1 ⟨x, H1, I1, r1, q1⟩ => ⟨σ, H1, I1, q1⟩) I.quiet hs
def tRet (te : TE) : TS := fun D σ H => te σ H D.rt
theorem ps_ret (he : PE X e te) : PS X (.Return (some e) pos) (tRet te) := by
  intro pins s σ H D I h
  exact wpAny_Return_some (thn (he pins s σ H _ I h) fun v s1 ⟨x, H1, I1, r1, q1⟩ => ⟨x, σ, H1, I1, r1, q1⟩)
def tIfS (c : TT) (t u : TS) : TS := fun D σ H => c σ H fun b H1 => if b = true then t D σ H1 else u D σ H1
theorem ps_if {c : Expr} {a b : List Stmt} {tc : TT} (hc : PT X c tc) (ha : PSs X a t) (hb : PSs X b u) : PS X (.If c a b pos) (tIfS tc t u) := by
  intro pins s σ H D I h
  refine wpAny_If (thn (hc pins s σ H _ I h) fun d s1 ⟨H1, I1, q1⟩ => ?_)
  cases d with
  | true => exact ha pins s1 σ H1 D I1 q1
  | false => exact hb pins s1 σ H1 D I1 q1
/-- code that the proof never comes to -/
def tNever : TS := fun _ _ _ => False
theorem pss_never {sts : List Stmt} : PSs X sts tNever := fun _ _ _ _ _ _ h => h.elim
end

abbrev TG := V → St → Hp → (St → Hp → Prop) → Prop
abbrev TGs := List V → St → Hp → (St → Hp → Prop) → Prop
def PG (X : Cx) (target : Expr) (t : TG) : Prop :=
  ∀ (pins : List (Addr × Obj)) (s : Shared) (σ : St) (H : Hp) (v : V) (u : Value) (Q : St → Hp → Prop), Inv X pins σ H s → RelV v u → t v σ H Q →
    wpAny (model X.prog X.w) X.A (assign target X.env u) (fun _ s' => ∃ σ' H', Inv X pins σ' H' s' ∧ Q σ' H') X.xe s
/-- several targets, one after another -/
def PGs (X : Cx) (ts : List Expr) (t : TGs) : Prop :=
  ∀ (pins : List (Addr × Obj)) (s : Shared) (σ : St) (H : Hp) (vs : List V) (us : List Value) (Q : St → Hp → Prop), Inv X pins σ H s → Vals vs us → t vs σ H Q →
    wpAny (model X.prog X.w) X.A (assignInOrder ((assignEach ts X.env).map (·.2)) us) (fun _ s' => ∃ σ' H', Inv X pins σ' H' s' ∧ Q σ' H') X.xe s
/-- o[i] = v, by values -/
abbrev TSet := V → V → V → Hp → (Hp → Prop) → Prop
def PSet (X : Cx) (t : TSet) : Prop :=
  ∀ (pins : List (Addr × Obj)) (s : Shared) (σ : St) (H : Hp) (o i v : V) (ov iv u : Value) (Q : Hp → Prop), Inv X pins σ H s → RelV o ov → RelV i iv → RelV v u → t o i v H Q →
    wpAny (model X.prog X.w) X.A (setItem ov iv u) (fun _ s' => ∃ H', Inv X pins σ H' s' ∧ Q H') X.xe s
section
variable {X : Cx} {pos : Pos}
def gName (i : Nat) : TG := fun v σ H Q => Q (σ.set i (some v)) H
theorem pg_name {i : Nat} {x : Str} (hN : X.N.Nodup) (hi : X.N[i]? = some x) (hx : Loc X.env.scope x) (hf : X.fn x = true ∨ X.env.scope.names.lookup x = some .local := by first | exact .inl rfl | exact .inr rfl | assumption) : PG X (.Name x pos) (gName i) := by
  intro pins s σ H v u Q I r h
  exact wpAny_assign_Name (store_ok I hN hi hx r (fun s' I' => ⟨_, H, I', h⟩) hf)
def gNil : TGs := fun vs σ H Q => vs = [] ∧ Q σ H
def gCons (t : TG) (u : TGs) : TGs := fun vs σ H Q => ∃ v r, vs = v :: r ∧ t v σ H fun σ' H' => u r σ' H' Q
theorem pgs_nil : PGs X [] gNil := by
  intro pins s σ H vs us Q I r h
  obtain ⟨e, h⟩ := h
  subst e
  cases r
  exact assignInOrder_nil ⟨σ, H, I, h⟩
theorem pgs_cons {e : Expr} {es : List Expr} {t : TG} {u : TGs} (h1 : PG X e t) (h2 : PGs X es u)
    (hs : (assignEach (e :: es) X.env).map (·.2) = assign e X.env :: (assignEach es X.env).map (·.2) := by rfl) : PGs X (e :: es) (gCons t u) := by
  intro pins s σ H vs us Q I r h
  obtain ⟨v, vr, e1, h⟩ := h
  subst e1
  cases r with
  | cons r rr =>
    rw [hs]
    refine assignInOrder_cons (thn (h1 pins s σ H _ _ _ I r h) fun _ s1 ⟨σ1, H1, I1, q1⟩ => ?_)
    exact h2 pins s1 σ1 H1 _ _ Q I1 rr q1
/-- (a, b, ..) = a tuple of that length -/
def gTup (K : PySem.W.Frag) (n : Nat) (t : TGs) : TG := fun v σ H Q => ∃ a xs, v = .ref a ∧ SqT K H a xs ∧ xs.length = n ∧ t xs σ H Q
theorem pg_tup {es : List Expr} {k : Nat} {t : TGs} {n : Nat} (hc : X.calm = true) (h : PGs X es t)
    (hn : (assignEach es X.env).length = n := by rfl) (hst : (assignEach es X.env).findIdx? (·.1) = none := by rfl) : PG X (.Tuple es k pos) (gTup X.K n t) := by
  intro pins s σ H v u Q I r hw
  obtain ⟨a, xs, e1, hq, hl, hw⟩ := hw
  subst e1
  cases r
  obtain ⟨its, rv, ht, hz⟩ := I.tuple hq
  refine assign_Tuple_tuple (I.ok.hd hc) ht (by simp [hn, ← hl, rv.length]) hst fun h' hx => ?_
  have I1 : Inv X pins σ H { s with heap := h' } := I.kept (t' := s.toks) fun b o e => hx b o (Nat.ne_of_lt (Heap.lt_size e)) e
  exact h pins _ σ H xs _ Q I1 (by simpa using rv) hw
/-- o[i] = .. -/
def gSub (to ti : TE) (t : TSet) : TG := fun v σ H Q => to σ H fun o H1 => ti σ H1 fun i H2 => t o i v H2 fun H3 => Q σ H3
theorem pg_sub {o i : Expr} {to ti : TE} {t : TSet} (ho : PE X o to) (hi : PE X i ti) (hs : PSet X t)
    (ha : ∀ v, assign (.Subscript o i pos) X.env v = (do
      let ov ← holding [v] (eval o X.env)
      let iv ← holding [v, ov] (eval i X.env)
      standAt pos
      holding [v, ov, iv] (setItem ov iv v)
      release [v, ov, iv] []) := by intro _; rfl) : PG X (.Subscript o i pos) (gSub to ti t) := by
  intro pins s σ H v u Q I r h
  rw [ha]
  refine wpAny_bind (wpAny_holding (thn (ho pins s σ H _ I h) fun ov s1 ⟨x, H1, I1, r1, q1⟩ => ?_))
  refine wpAny_bind (wpAny_holding (thn (hi pins s1 σ H1 _ I1 q1) fun iv s2 ⟨y, H2, I2, r2, q2⟩ => ?_))
  refine wpAny_bind (wpAny_standAt (wpAny_bind (wpAny_holding (thn (hs pins s2 σ H2 x y v ov iv u _ I2 r1 r2 r q2) fun _ s3 ⟨H3, I3, q3⟩ => ?_))))
  exact wpAny_release ⟨σ, H3, I3, q3⟩
/-- target = value -/
def tAsg (te : TE) (g : TG) : TS := fun D σ H => te σ H fun x H1 => g x σ H1 D.nx
theorem ps_asg {tg e : Expr} {te : TE} {g : TG} (he : PE X e te) (hg : PG X tg g) (hs : swapsWithSole [tg] e pos.line X.env = pure false := by rfl) (hw : swappedStores [tg] e X.env = pure none := by rfl)
    (h1 : (assignEach [tg] X.env).map (·.2) = [assign tg X.env] := by rfl) : PS X (.Assign [tg] e pos) (tAsg te g) := by
  intro pins s σ H D I h
  refine wpAny_Assign_stores (thn (he pins s σ H _ I h) fun v s1 ⟨x, H1, I1, r1, q1⟩ => ?_) hs hw
  rw [h1]
  exact thn (hg pins s1 σ H1 x v _ I1 r1 q1) fun _ s2 q => q
/-- name = value -/
theorem ps_set {i : Nat} {x : Str} {e : Expr} {te : TE} {pos' : Pos} (hN : X.N.Nodup) (hi : X.N[i]? = some x) (hx : Loc X.env.scope x) (he : PE X e te) (hs : swapsWith e (some (.Name x pos')) pos.line X.env = pure false := by rfl) (hf : X.fn x = true ∨ X.env.scope.names.lookup x = some .local := by first | exact .inl rfl | exact .inr rfl | assumption) :
    PS X (.Assign [.Name x pos'] e pos) (tAsg te (gName i)) := by
  intro pins s σ H D I h
  refine wpAny_Assign_Name (thn (he pins s σ H _ I h) fun v s1 ⟨y, H1, I1, r1, q1⟩ => ?_) hs
  exact store_ok I1 hN hi hx r1 (fun s2 I2 => ⟨_, H1, I2, q1⟩) hf
end

section
variable {X : Cx} {pos : Pos}
/-- the invariant W with its measure -/
def tWhile (c : TT) (tb : TS) : TS := fun D σ H => ∃ W : Nat → St → Hp → Prop, (∃ m, W m σ H) ∧ ∀ m σ H, W m σ H →
  c σ H fun b H1 => if b = true then ∃ N : St → Hp → Prop, (∀ σ' H', N σ' H' → ∃ m', m' < m ∧ W m' σ' H') ∧ tb { D with nx := N, ct := N, bk := D.nx } σ H1 else D.nx σ H1
theorem ps_while {c : Expr} {body : List Stmt} {tc : TT} {tb : TS} (hp : PassesOwn (model X.prog X.w) X.A X.env X.xe) (hc : PT X c tc) (hb : PSs X body tb) : PS X (.While c body [] pos) (tWhile tc tb) := by
  intro pins s σ H D I h
  obtain ⟨W, ⟨m0, w0⟩, turn⟩ := h
  refine wpAny_While (codeAny_whileLoop (fun n s' => ∃ σ' H', Inv X pins σ' H' s' ∧ W n σ' H') ?_ m0 ⟨σ, H, I, w0⟩)
  rintro n s1 ⟨σ1, H1, I1, w1⟩
  refine wpAny_passesOwn hp (thn (hc pins s1 σ1 H1 _ I1 (turn n σ1 H1 w1)) fun b s2 ⟨H2, I2, q2⟩ => ?_)
  cases b with
  | true =>
    obtain ⟨N, hN, q2⟩ := q2
    rw [if_pos rfl]
    refine wpAny_passesOwn hp (thn (hb pins s2 σ1 H2 _ I2 q2) fun f s3 q3 => ?_)
    cases f with
    | next =>
      obtain ⟨σ3, H3, I3, n3⟩ := q3
      obtain ⟨m', hm, w3⟩ := hN σ3 H3 n3
      exact ⟨m', hm, σ3, H3, I3, w3⟩
    | cont =>
      obtain ⟨σ3, H3, I3, n3⟩ := q3
      obtain ⟨m', hm, w3⟩ := hN σ3 H3 n3
      exact ⟨m', hm, σ3, H3, I3, w3⟩
    | brk => exact q3
    | ret v => exact q3
  | false =>
    rw [if_neg Bool.false_ne_true]
    exact wpAny_execs_nil ⟨σ1, H2, I2, q2⟩
end

/-- at turn i: it yields x (the heap may grow), or it stops -/
structure It where
  go : Nat → Hp → Prop
  yld : Nat → Hp → V → Hp → Prop
  stop : Nat → Hp → Prop
/-- the iterator's own objects may turn: they are not the frame's, not pinned, younger than the entry (or a comprehension's own) -/
def FpOk (X : Cx) (pins : List (Addr × Obj)) (H : Hp) (b : Addr) : Prop :=
  H b = none ∧ b ≠ X.env.locals ∧ b ∉ X.fs ∧ (b ∈ X.ex ∨ X.s₀.heap.objs.size ≤ b) ∧ (∀ x c, X.env.cells.lookup x = some c → c ≠ b) ∧ ∀ p ∈ X.pn ++ pins, p.1 ≠ b
theorem Inv.fpOk {X : Cx} {pins : List (Addr × Obj)} {σ : St} {H H' : Hp} {s : Shared} {b : Addr} (I : Inv X pins σ H s) (hb : s.heap.objs.size ≤ b) (hn : H' b = none) : FpOk X pins H' b := by
  refine ⟨hn, Nat.ne_of_gt (Nat.lt_of_lt_of_le I.lt hb), I.nofs hb, .inr (Nat.le_trans I.sz hb), fun x c e z => ?_, fun p hp z => ?_⟩
  · obtain ⟨v, q⟩ := I.cell x c e
    exact absurd (Nat.lt_of_lt_of_le q.lt (by rw [z]; exact hb)) (Nat.lt_irrefl _)
  · exact absurd (Nat.lt_of_lt_of_le (Heap.lt_size (I.pin p hp).1) (by rw [z]; exact hb)) (Nat.lt_irrefl _)
structure Turn (P : Program) (w : World) (K : PySem.W.Frag) (tg : Expr) (J : It) (fp : List Addr) (it : Addr) (tn : Nat → Heap → Prop) : Prop where
  mem : it ∈ fp
  obj : ∀ i h, tn i h → ∀ b ∈ fp, ∃ o, h.get? b = some o ∧ ∀ v, o.data ≠ .cell v
  keep : ∀ i h h', tn i h → (∀ b ∈ fp, ∀ o, h.get? b = some o → h'.get? b = some o) → tn i h'
  item : ∀ (X : Cx), X.prog = P → X.w = w → X.K = K → X.calm = true → ∀ (i : Nat) (pins : List (Addr × Obj)) (s : Shared) (σ : St) (H : Hp) (E : Value → Shared → Prop), Inv X pins σ H s → (∀ b ∈ fp, FpOk X pins H b) → tn i s.heap → J.go i H →
    wpAny (model P w) X.A (pyNext (.ref it)) (fun r s1 => ∃ u, r = some u ∧
      wpAny (model P w) X.A (letOwnedTupleGo tg (.ref it) u) (fun _ s2 => ∃ x H', Inv X pins σ H' s2 ∧ RelV x u ∧ J.yld i H x H' ∧ tn (i + 1) s2.heap ∧ ∀ b ∈ fp, H' b = none) E s1) E s
  done : ∀ (X : Cx), X.prog = P → X.w = w → X.K = K → X.calm = true → ∀ (i : Nat) (pins : List (Addr × Obj)) (s : Shared) (σ : St) (H : Hp) (E : Value → Shared → Prop), Inv X pins σ H s → (∀ b ∈ fp, FpOk X pins H b) → tn i s.heap → J.stop i H →
    wpAny (model P w) X.A (pyNext (.ref it)) (fun r s1 => r = none ∧ Inv X pins σ H s1) E s
  self : ∀ (A : Around) (i : Nat) (s : Shared) (Q : Value → Shared → Prop) (E : Value → Shared → Prop), tn i s.heap → Q (.ref it) s → wpAny (model P w) A (pyIter (.ref it)) Q E s
abbrev TI := St → Hp → (It → Hp → Prop) → Prop
/-- an iterator has come -/
def PIE (X : Cx) (pins : List (Addr × Obj)) (σ : St) (tg : Expr) (R : It → Hp → Prop) (itv : Value) (s2 : Shared) : Prop :=
  ∃ (it : Addr) (fp : List Addr) (tn : Nat → Heap → Prop) (J : It) (H' : Hp), itv = .ref it ∧ Inv X pins σ H' s2 ∧ Turn X.prog X.w X.K tg J fp it tn ∧ tn 0 s2.heap ∧ (∀ b ∈ fp, FpOk X pins H' b) ∧ R J H'
def PI (X : Cx) (tg iter : Expr) (wi : TI) : Prop :=
  ∀ (pins : List (Addr × Obj)) (s : Shared) (σ : St) (H : Hp) (R : It → Hp → Prop), Inv X pins σ H s → wi σ H R →
    wpAny (model X.prog X.w) X.A (eval iter X.env) (fun v s1 => wpAny (model X.prog X.w) X.A (pyIter v) (PIE X pins σ tg R) X.xe s1) X.xe s

/-- the step ahead of the store is nothing for an iterator that keeps no tuple -/
theorem go_of {M : Model} {A : Around} {E : Value → Shared → Prop} {s : Shared} {tg : Expr} {it : Addr} {u : Value} {o : Obj} {n : String} {vs : Array Value} {Q : Unit → Shared → Prop} (ho : s.heap.get? it = some o) (hc : o.cls = .type n) (hd : o.data = .fields vs)
    (hn : ["enumerate", "zip", "dict_itemiterator", "dict_reverseitemiterator", "odict_iterator", "itertools.zip_longest", "itertools.pairwise"].contains n = false) (hQ : Q () s) : wpAny M A (letOwnedTupleGo tg (.ref it) u) Q E s := by
  unfold letOwnedTupleGo
  cases tg <;> first
    | exact wpAny_pure hQ
    | (cases u <;> first
        | exact wpAny_pure hQ
        | (refine wpAny_bind (wpAny_load ho ?_)
           rw [hc, hd]
           show wpAny M A (if (["enumerate", "zip", "dict_itemiterator", "dict_reverseitemiterator", "odict_iterator", "itertools.zip_longest", "itertools.pairwise"].contains n && vs[0]? == some (rawInt _)) = true then _ else _) Q E s
           rw [if_neg (by intro h; rw [hn, Bool.false_and] at h; cases h)]
           exact wpAny_pure hQ))

/-- the list at a, as it stands at each turn (a loop may append to it) -/
def Itl (K : PySem.W.Frag) (a : Addr) : It :=
  ⟨fun i H => ∃ xs x, SqL K H a xs ∧ xs[i]? = some x, fun i H x H' => H' = H ∧ ∀ xs, SqL K H a xs → xs[i]? = some x, fun i H => ∃ xs, SqL K H a xs ∧ xs.length ≤ i⟩
/-- lo, lo + 1, .. (n of them) -/
def Itr (lo : Int) (n : Nat) : It := ⟨fun i _ => i < n, fun i H x H' => H' = H ∧ x = .int (lo + i), fun i _ => n ≤ i⟩
theorem turn_list {P : Program} {w : World} {K : PySem.W.Frag} {tg : Expr} (a it : Addr) : Turn P w K tg (Itl K a) [it] it (fun i h => h.IsListIter it a i) where
  mem := by simp
  obj := fun i h st b hb => by
    have e : b = it := by simpa using hb
    subst e
    obtain ⟨o, e, c, d⟩ := st
    exact ⟨o, e, fun v z => by rw [d] at z; cases z⟩
  keep := fun i h h' st k => st.at fun o e => k it (by simp) o e
  item := by
    intro X hP hw hK hc i pins s σ H E I hf st hg
    subst hP hw hK
    obtain ⟨xs, x, hq, hx⟩ := hg
    obtain ⟨its, rv, p, hz⟩ := I.list hq
    obtain ⟨u, hu, ru⟩ := rv.get hx
    obtain ⟨f0, f1, f2, f3, f4, f5⟩ := hf it (by simp)
    refine wpAny_pyNext_list_item st p.isList (x := u) (by simpa using hu) fun h' st' sb => ?_
    have I1 : Inv X pins σ H { s with heap := h' } := I.turned (t' := s.toks) (fun b o hb e => (sb.2 b hb).trans e) f0 f1 f3 f4 f5
    obtain ⟨o, e, c, d⟩ := id st'
    exact ⟨u, rfl, go_of (s := { s with heap := h' }) e c d (by decide) ⟨x, H, I1, ru, ⟨rfl, fun ys hy => by rw [I.list_inj hy hq]; exact hx⟩, st', fun b hb => (hf b hb).1⟩⟩
  done := by
    intro X hP hw hK hc i pins s σ H E I hf st hg
    subst hP hw hK
    obtain ⟨xs, hq, hx⟩ := hg
    obtain ⟨its, rv, p, hz⟩ := I.list hq
    obtain ⟨f0, f1, f2, f3, f4, f5⟩ := hf it (by simp)
    have hl := rv.length
    exact wpAny_pyNext_list_end (I.ok.hd hc) st p.isList (by simp; omega) fun h' eb => ⟨rfl, I.turned (t' := s.toks) (fun b o hb e => eb b o hb e) f0 f1 f3 f4 f5⟩
  self := fun _ _ _ _ _ st h => wpAny_pyIter_listiter st h
theorem turn_range {P : Program} {w : World} {K : PySem.W.Frag} {tg : Expr} (it : Addr) (lo : Int) (n : Nat) : Turn P w K tg (Itr lo n) [it] it (fun i h => IsRangeIter h it (lo + (i : Nat) * 1) ((n : Int) - (i : Nat)) 1) where
  mem := by simp
  obj := fun i h st b hb => by
    have e : b = it := by simpa using hb
    subst e
    exact ⟨_, st, fun v z => by
      have z' : Data.fields _ = Data.cell v := z
      cases z'⟩
  keep := fun i h h' st k => k it (by simp) _ st
  item := by
    intro X hP hw hK hc i pins s σ H E I hf st hg
    subst hP hw hK
    obtain ⟨f0, f1, f2, f3, f4, f5⟩ := hf it (by simp)
    have W := Walks.range (prog := X.prog) (w := X.w) (I.ok.hd hc) it lo 1 n
    refine W.item i s _ _ hg st fun v h' tk hv st' kk => ?_
    obtain ⟨t, rfl⟩ := hv
    have I1 : Inv X pins σ H { s with heap := h', toks := tk } := I.turned (fun b o hb e => kk b o (by simpa using hb) e) f0 f1 f3 f4 f5
    refine ⟨_, rfl, go_of (s := { s with heap := h', toks := tk }) (n := "range_iterator") st' rfl rfl (by decide) ⟨.int (lo + i), H, I1, ⟨t, ?_⟩, ⟨rfl, rfl⟩, st', fun b hb => (hf b hb).1⟩⟩
    rw [Int.mul_one]
  done := by
    intro X hP hw hK hc i pins s σ H E I hf st hg
    subst hP hw hK
    obtain ⟨f0, f1, f2, f3, f4, f5⟩ := hf it (by simp)
    exact wpAny_pyNext_range_end (I.ok.hd hc) st (by have : n ≤ i := hg; omega) fun h' eb => ⟨rfl, I.turned (t' := s.toks) (fun b o hb e => eb b o hb e) f0 f1 f3 f4 f5⟩
  self := fun _ _ _ _ _ st h => wpAny_pyIter_rangeiter st h
end L2

namespace L2
open PySem PySem.Spec PyProof.Rows
section
variable {X : Cx} {tg : Expr}
def iList (K : PySem.W.Frag) (tl : TE) : TI := fun σ H R => tl σ H fun x H1 => ∃ a, x = .ref a ∧ (∃ xs, SqL K H1 a xs) ∧ R (Itl K a) H1
theorem pi_list {l : Expr} {tl : TE} (hl : PE X l tl) : PI X tg l (iList X.K tl) := by
  intro pins s σ H R I h
  refine thn (hl pins s σ H _ I h) fun v s1 ⟨x, H1, I1, r1, q1⟩ => ?_
  obtain ⟨a, e, ⟨xs, hq⟩, q⟩ := q1
  subst e
  cases r1
  obtain ⟨its, rv, p, hz⟩ := I1.list hq
  refine wpAny_pyIter_list p.isList ?_
  refine ⟨s1.heap.objs.size, [s1.heap.objs.size], _, _, H1, rfl, I1.kept (t' := s1.toks) fun b o e => Heap.get?_push_of_some _ e, turn_list a _, ⟨_, Heap.get?_push_size _ rfl, rfl, rfl⟩, fun b hb => ?_, q⟩
  have e : b = s1.heap.objs.size := by simpa using hb
  subst e
  exact I1.fpOk (Nat.le_refl _) (I1.hok.fresh (Nat.le_refl _))
/-- a range object just made, walked -/
theorem range_it {pins : List (Addr × Obj)} {σ : St} {H : Hp} {s : Shared} {R : It → Hp → Prop} {E : Value → Shared → Prop} {lo hi : Int} {t u v : Tok} {tk : Nat} (I : Inv X pins σ H s) (h1 : -(2 ^ 62) ≤ lo) (h2 : lo < 2 ^ 62) (h3 : -(2 ^ 62) ≤ hi) (h4 : hi < 2 ^ 62)
    (q : R (Itr lo (hi - lo).toNat) H) : wpAny (model X.prog X.w) X.A (pyIter (.ref s.heap.objs.size)) (PIE X pins σ tg R) E { s with heap := s.heap.push { cls := .type "range", data := .fields #[.int lo t, .int hi u, .int 1 v] }, toks := tk } := by
  refine wpAny_pyIter_range (IsRange.new ..) (small_one h1 h2 h3 h4) ?_
  have I1 : Inv X pins σ H { s with heap := s.heap.push { cls := .type "range", data := .fields #[.int lo t, .int hi u, .int 1 v] }, toks := tk } := I.kept fun b o e => Heap.get?_push_of_some _ e
  refine ⟨(s.heap.push { cls := .type "range", data := .fields #[.int lo t, .int hi u, .int 1 v] }).objs.size, [(s.heap.push { cls := .type "range", data := .fields #[.int lo t, .int hi u, .int 1 v] }).objs.size], _, _, H, rfl,
    I1.kept (t' := tk) fun b o e => Heap.get?_push_of_some _ e, turn_range _ lo (hi - lo).toNat, ?_, fun b hb => ?_, q⟩
  · have e1 : lo + ((0 : Nat) : Int) * 1 = lo := by simp
    have e2 : (((hi - lo).toNat : Nat) : Int) - ((0 : Nat) : Int) = Builtin.Range.rangeSize lo hi 1 := by rw [rangeSize_one]; split <;> omega
    show IsRangeIter _ _ (lo + ((0 : Nat) : Int) * 1) ((((hi - lo).toNat : Nat) : Int) - ((0 : Nat) : Int)) 1
    rw [e1, e2]
    exact Heap.get?_push_size _ rfl
  · have e : b = (s.heap.push { cls := .type "range", data := .fields #[.int lo t, .int hi u, .int 1 v] }).objs.size := by simpa using hb
    subst e
    exact I1.fpOk (Nat.le_refl _) (I1.hok.fresh (Nat.le_refl _))
def iRng1 (ta : TA) : TI := fun σ H R => ta σ H fun vs H1 => ∃ j : Int, vs = [.int j] ∧ -(2 ^ 62) ≤ j ∧ j < 2 ^ 62 ∧ R (Itr 0 j.toNat) H1
def iRng2 (ta : TA) : TI := fun σ H R => ta σ H fun vs H1 => ∃ i j : Int, vs = [.int i, .int j] ∧ (-(2 ^ 62) ≤ i ∧ i < 2 ^ 62 ∧ -(2 ^ 62) ≤ j ∧ j < 2 ^ 62) ∧ R (Itr i (j - i).toNat) H1
theorem pi_range1 {a : Expr} {ta : TA} {p pos : Pos} (hg : Gl X "range") (hm : X.mg "range" = none) (ha : PA X [a] ta) (hs : starEach [a] X.env = [(false, eval a X.env)] := by rfl) : PI X tg (.Call (.Name "range" p) [a] [] pos) (iRng1 ta) := by
  intro pins s σ H R I h
  refine Call_ (ld_blt I hg hm boot_range (PyProof.Rows.callWith_type1 (thn (ha pos pins s σ H _ I h) fun us s1 ⟨vs, H1, I1, r1, q1⟩ => ?_) hs rfl))
  obtain ⟨j, e, q1, q2, q⟩ := q1
  subst e
  cases r1 with
  | cons r rr =>
    cases rr
    obtain ⟨t, rfl⟩ := r
    exact call_range_1 (range_it I1 (by omega) (by omega) q1 q2 (by simpa using q))
theorem pi_range2 {a b : Expr} {ta : TA} {p pos : Pos} (hg : Gl X "range") (hm : X.mg "range" = none) (ha : PA X [a, b] ta) (hs : starEach [a, b] X.env = [(false, eval a X.env), (false, eval b X.env)] := by rfl) (hs2 : starEach [b] X.env = [(false, eval b X.env)] := by rfl) :
    PI X tg (.Call (.Name "range" p) [a, b] [] pos) (iRng2 ta) := by
  intro pins s σ H R I h
  refine Call_ (ld_blt I hg hm boot_range (PyProof.Rows.callWith_type1 (thn (ha pos pins s σ H _ I h) fun us s1 ⟨vs, H1, I1, r1, q1⟩ => ?_) (by rw [hs, hs2]) (by rw [hs2]; rfl)))
  obtain ⟨i, j, e, ⟨q1, q2, q3, q4⟩, q⟩ := q1
  subst e
  cases r1 with
  | cons r rr =>
    cases rr with
    | cons r' rr =>
      cases rr
      obtain ⟨t, rfl⟩ := r
      obtain ⟨t', rfl⟩ := r'
      exact call_range_2 (range_it I1 q1 q2 q3 q4 q)

/-- W: the invariant by the turn and a measure; N: what the body is to reach -/
def tFor (wi : TI) (g : TG) (tb : TS) : TS := fun D σ H => wi σ H fun J H1 => ∃ W : Nat → Nat → St → Hp → Prop, (∃ m, W 0 m σ H1) ∧ ∀ i m σ H, W i m σ H →
  (J.stop i H ∧ D.nx σ H) ∨ (J.go i H ∧ ∃ N : St → Hp → Prop, (∀ σ' H', N σ' H' → ∃ m', m' < m ∧ W (i + 1) m' σ' H') ∧ ∀ x H', J.yld i H x H' → g x σ H' fun σ2 H2 => tb { D with nx := N, ct := N, bk := D.nx } σ2 H2)
/-- the records at fp as they stand -/
def pinsAt (fp : List Addr) (h : Heap) : List (Addr × Obj) := fp.filterMap fun b => (h.get? b).map fun o => (b, o)
theorem mem_pinsAt {fp : List Addr} {h : Heap} {b : Addr} {o : Obj} (hb : b ∈ fp) (e : h.get? b = some o) : (b, o) ∈ pinsAt fp h := List.mem_filterMap.mpr ⟨b, hb, by rw [e]; rfl⟩
theorem of_pinsAt {fp : List Addr} {h : Heap} {p : Addr × Obj} (hp : p ∈ pinsAt fp h) : p.1 ∈ fp ∧ h.get? p.1 = some p.2 := by
  obtain ⟨b, hb, e⟩ := List.mem_filterMap.mp hp
  cases q : h.get? b with
  | none => rw [q] at e; cases e
  | some o =>
    rw [q] at e
    have e' : (b, o) = p := Option.some.inj e
    subst e'
    exact ⟨hb, q⟩
theorem Inv.pinned {pins : List (Addr × Obj)} {σ : St} {H : Hp} {s : Shared} {fp : List Addr} (I : Inv X pins σ H s) (hf : ∀ b ∈ fp, FpOk X pins H b) (ho : ∀ b ∈ fp, ∃ o, s.heap.get? b = some o ∧ ∀ v, o.data ≠ .cell v) : Inv X (pins ++ pinsAt fp s.heap) σ H s :=
  I.pins_of fun p hp => (List.mem_append.mp hp).elim (fun z => I.pin p (List.mem_append_right _ z)) fun z => by
    obtain ⟨hb, e⟩ := of_pinsAt z
    obtain ⟨f0, f1, f2, _⟩ := hf p.1 hb
    obtain ⟨o, e', d⟩ := ho p.1 hb
    rw [e] at e'; cases e'
    exact ⟨e, f0, f1, f2, d⟩
theorem Inv.unpinned {pins pl : List (Addr × Obj)} {σ : St} {H : Hp} {s : Shared} (I : Inv X (pins ++ pl) σ H s) : Inv X pins σ H s := I.pins_of fun p hp => I.pin p (List.mem_append_right _ (List.mem_append_left _ hp))
theorem ps_for {iter : Expr} {body : List Stmt} {wi : TI} {g : TG} {tb : TS} {pos : Pos} (hp : PassesOwn (model X.prog X.w) X.A X.env X.xe) (hc : X.calm = true) (hi : PI X tg iter wi) (hg : PG X tg g) (hb : PSs X body tb)
    (hs : ∀ x, foldedSetIterable iter X.env x = pure x := by intro _; rfl) : PS X (.For tg iter body [] pos) (tFor wi g tb) := by
  intro pins s σ H D I h
  refine wpAny_For (thn (hi pins s σ H _ I h) fun v s1 h1 => thn h1 fun itv s2 h2 => ?_) hs
  obtain ⟨it, fp, tn, J, H2, e, I2, T, st2, f2, W, ⟨m0, w0⟩, turn⟩ := h2
  subst e
  -- what stays true of the iterator's objects through the loop
  have stat : ∀ {H' : Hp}, (∀ b ∈ fp, H' b = none) → ∀ b ∈ fp, FpOk X pins H' b := fun hn b hb => ⟨hn b hb, (f2 b hb).2⟩
  refine codeAny_forLoop_any (fun n s' => ∃ i σ' H', Inv X pins σ' H' s' ∧ tn i s'.heap ∧ (∀ b ∈ fp, H' b = none) ∧ W i n σ' H') ?_ m0 ⟨0, σ, H2, I2, st2, fun b hb => (f2 b hb).1, w0⟩
  rintro n s3 ⟨i, σ3, H3, I3, st3, fr3, w3⟩
  rcases turn i n σ3 H3 w3 with ⟨stop, qn⟩ | ⟨go, N, hN, step⟩
  · refine wpAny_passesOwn hp (thn (T.done X rfl rfl rfl hc i pins s3 σ3 H3 X.xe I3 (stat fr3) st3 stop) fun r s4 ⟨hr, I4⟩ => ?_)
    subst hr
    exact wpAny_execs_nil ⟨σ3, H3, I4, qn⟩
  · refine wpAny_passesOwn hp (thn (T.item X rfl rfl rfl hc i pins s3 σ3 H3 X.xe I3 (stat fr3) st3 go) fun r s4 ⟨u, hr, h4⟩ => ?_)
    subst hr
    refine wpAny_passesOwn hp (thn h4 fun _ s5 ⟨x, H5, I5, r5, y5, st5, fr5⟩ => ?_)
    have I5' := I5.pinned (stat fr5) (T.obj _ _ st5)
    refine wpAny_passesOwn hp (thn (hg _ s5 σ3 H5 x u _ I5' r5 (step x H5 y5)) fun _ s6 ⟨σ6, H6, I6, q6⟩ => ?_)
    refine wpAny_passesOwn hp (thn (hb _ s6 σ6 H6 _ I6 q6) fun f s7 q7 => ?_)
    have again : ∀ {σ7 : St} {H7 : Hp}, Inv X (pins ++ pinsAt fp s5.heap) σ7 H7 s7 → N σ7 H7 → ∃ m, m < n ∧ ∃ i σ' H', Inv X pins σ' H' s7 ∧ tn i s7.heap ∧ (∀ b ∈ fp, H' b = none) ∧ W i m σ' H' := fun {σ7 H7} I7 n7 => by
      obtain ⟨m', hm, w7⟩ := hN σ7 H7 n7
      refine ⟨m', hm, i + 1, σ7, H7, I7.unpinned, T.keep _ _ _ st5 fun b hb o e => (I7.pin (b, o) (List.mem_append_right _ (List.mem_append_right _ (mem_pinsAt hb e)))).1, fun b hb => ?_, w7⟩
      obtain ⟨o, e, d⟩ := T.obj _ _ st5 b hb
      exact (I7.pin (b, o) (List.mem_append_right _ (List.mem_append_right _ (mem_pinsAt hb e)))).2.1
    cases f with
    | next => obtain ⟨σ7, H7, I7, n7⟩ := q7; exact again I7 n7
    | cont => obtain ⟨σ7, H7, I7, n7⟩ := q7; exact again I7 n7
    | brk => obtain ⟨σ7, H7, I7, q7⟩ := q7; exact ⟨σ7, H7, I7.unpinned, q7⟩
    | ret v => obtain ⟨x7, σ7, H7, I7, r7, q7⟩ := q7; exact ⟨x7, σ7, H7, I7.unpinned, r7, q7⟩
end

/-- over a list that the body leaves as it is -/
theorem for_list {K : PySem.W.Frag} {a : Addr} {xs : List V} {g : TG} {tb : TS} {D : Ends} {σ : St} {H : Hp} (Pv : Nat → St → Hp → Prop) (h0 : Pv 0 σ H) (hl : ∀ i σ H, i ≤ xs.length → Pv i σ H → SqL K H a xs)
    (hs : ∀ i x σ H, xs[i]? = some x → Pv i σ H → g x σ H fun σ2 H2 => tb { D with nx := Pv (i + 1), ct := Pv (i + 1), bk := D.nx } σ2 H2) (hd : ∀ σ H, Pv xs.length σ H → D.nx σ H) :
    ∃ W : Nat → Nat → St → Hp → Prop, (∃ m, W 0 m σ H) ∧ ∀ i m σ H, W i m σ H →
      ((Itl K a).stop i H ∧ D.nx σ H) ∨ ((Itl K a).go i H ∧ ∃ N : St → Hp → Prop, (∀ σ' H', N σ' H' → ∃ m', m' < m ∧ W (i + 1) m' σ' H') ∧ ∀ x H', (Itl K a).yld i H x H' → g x σ H' fun σ2 H2 => tb { D with nx := N, ct := N, bk := D.nx } σ2 H2) := by
  refine ⟨fun i m σ H => m = xs.length - i ∧ i ≤ xs.length ∧ Pv i σ H, ⟨xs.length, by simp, Nat.zero_le _, h0⟩, ?_⟩
  rintro i m σ H ⟨rfl, hi, p⟩
  have q := hl i σ H hi p
  by_cases hlt : i < xs.length
  · refine .inr ⟨⟨xs, xs[i], q, by simp [hlt]⟩, Pv (i + 1), fun σ' H' p' => ⟨xs.length - (i + 1), by omega, rfl, hlt, p'⟩, fun x H' y => ?_⟩
    obtain ⟨e, y⟩ := y
    subst e
    exact hs i x σ _ (y xs q) p
  · have e : i = xs.length := by omega
    subst e
    exact .inl ⟨⟨xs, q, Nat.le_refl _⟩, hd σ H p⟩
theorem for_range {lo : Int} {n : Nat} {g : TG} {tb : TS} {D : Ends} {σ : St} {H : Hp} (Pv : Nat → St → Hp → Prop) (h0 : Pv 0 σ H)
    (hs : ∀ i σ H, i < n → Pv i σ H → g (.int (lo + i)) σ H fun σ2 H2 => tb { D with nx := Pv (i + 1), ct := Pv (i + 1), bk := D.nx } σ2 H2) (hd : ∀ σ H, Pv n σ H → D.nx σ H) :
    ∃ W : Nat → Nat → St → Hp → Prop, (∃ m, W 0 m σ H) ∧ ∀ i m σ H, W i m σ H →
      ((Itr lo n).stop i H ∧ D.nx σ H) ∨ ((Itr lo n).go i H ∧ ∃ N : St → Hp → Prop, (∀ σ' H', N σ' H' → ∃ m', m' < m ∧ W (i + 1) m' σ' H') ∧ ∀ x H', (Itr lo n).yld i H x H' → g x σ H' fun σ2 H2 => tb { D with nx := N, ct := N, bk := D.nx } σ2 H2) := by
  refine ⟨fun i m σ H => m = n - i ∧ i ≤ n ∧ Pv i σ H, ⟨n, by simp, Nat.zero_le _, h0⟩, ?_⟩
  rintro i m σ H ⟨rfl, hi, p⟩
  by_cases hlt : i < n
  · refine .inr ⟨hlt, Pv (i + 1), fun σ' H' p' => ⟨n - (i + 1), by omega, rfl, hlt, p'⟩, fun x H' y => ?_⟩
    obtain ⟨e, y⟩ := y
    subst e y
    exact hs i σ _ hlt p
  · have e : i = n := by omega
    subst e
    exact .inl ⟨Nat.le_refl _, hd σ H p⟩
end L2

namespace L2
open PySem PySem.Spec PyProof.Rows

abbrev R2 := V → V → Hp → VK → Prop
/-- a two-place operation on values: f is binaryOp op, inplaceOp op or compareOp op -/
def OpR (X : Cx) (f : Value → Value → Sem Value) (r : R2) : Prop :=
  ∀ (pins : List (Addr × Obj)) (s : Shared) (σ : St) (H : Hp) (x y : V) (v u : Value) (Q : VK), Inv X pins σ H s → RelV x v → RelV y u → r x y H Q →
    wpAny (model X.prog X.w) X.A (f v u) (EP X pins σ Q) X.xe s
/-- a one-place operation -/
def UnR (X : Cx) (f : Value → Sem Value) (r : V → Hp → VK → Prop) : Prop :=
  ∀ (pins : List (Addr × Obj)) (s : Shared) (σ : St) (H : Hp) (x : V) (v : Value) (Q : VK), Inv X pins σ H s → RelV x v → r x H Q →
    wpAny (model X.prog X.w) X.A (f v) (EP X pins σ Q) X.xe s
/-- a call of a value that is known (a builtin, a type) with values -/
def CallR (X : Cx) (f : Value) (r : List V → Hp → VK → Prop) : Prop :=
  ∀ (pins : List (Addr × Obj)) (s : Shared) (σ : St) (H : Hp) (xs : List V) (us : List Value) (Q : VK), Inv X pins σ H s → Vals xs us → r xs H Q →
    wpAny (model X.prog X.w) X.A (call f us) (EP X pins σ Q) X.xe s
/-- a value's truth -/
def TruR (X : Cx) (r : V → Hp → (Bool → Hp → Prop) → Prop) : Prop :=
  ∀ (pins : List (Addr × Obj)) (s : Shared) (σ : St) (H : Hp) (x : V) (v : Value) (Q : Bool → Hp → Prop), Inv X pins σ H s → RelV x v → r x H Q →
    wpAny (model X.prog X.w) X.A (truthy v) (TP X pins σ Q) X.xe s

def tOp (r : R2) (ta tb : TE) : TE := fun σ H Q => ta σ H fun x H1 => tb σ H1 fun y H2 => r x y H2 Q
def tUn (r : V → Hp → VK → Prop) (ta : TE) : TE := fun σ H Q => ta σ H fun x H1 => r x H1 Q
/-- ints in, under C, and a value out -/
def rI (C : Int → Int → Prop) (g : Int → Int → V) : R2 := fun x y H Q => ∃ i j, x = .int i ∧ y = .int j ∧ C i j ∧ Q (g i j) H
def rI0 (g : Int → Int → V) : R2 := fun x y H Q => ∃ i j, x = .int i ∧ y = .int j ∧ Q (g i j) H
def rU (g : Int → V) : V → Hp → VK → Prop := fun x H Q => ∃ i, x = .int i ∧ Q (g i) H

section
variable {X : Cx} {a b c : Expr} {ta tb tc : TE} {pos : Pos}

theorem binT (ha : PE X a ta) (hb : PE X b tb) {pins : List (Addr × Obj)} {s : Shared} {σ : St} {H : Hp} {R : V → V → Hp → Prop} (I : Inv X pins σ H s)
    (h : ta σ H fun x H1 => tb σ H1 fun y H2 => R x y H2) {Q : Value → Shared → Prop} {f : Value → Value → Sem Value}
    (hf : ∀ v u s2 x y H2, Inv X pins σ H2 s2 → RelV x v → RelV y u → R x y H2 → wpAny (model X.prog X.w) X.A (f v u) Q X.xe s2) :
    wpAny (model X.prog X.w) X.A (eval a X.env) (fun v s₁ => wpAny (model X.prog X.w) X.A (eval b X.env) (fun u s₂ => wpAny (model X.prog X.w) X.A (f v u) Q X.xe s₂) X.xe s₁) X.xe s := by
  refine thn (ha pins s σ H _ I h) fun v s1 ⟨x, H1, I1, r1, q1⟩ => ?_
  refine thn (hb pins s1 σ H1 _ I1 q1) fun u s2 ⟨y, H2, I2, r2, q2⟩ => ?_
  exact hf v u s2 x y H2 I2 r1 r2 q2

theorem pe_op {op : Operator} {r : R2} (ho : OpR X (binaryOp op) r) (ha : PE X a ta) (hb : PE X b tb) : PE X (.BinOp a op b pos) (tOp r ta tb) := by
  intro pins s σ H Q I h
  exact wpAny_BinOp (binT ha hb I h fun v u s2 x y H2 I2 rx ry q => ho pins s2 σ H2 x y v u Q I2 rx ry q)
theorem pe_un {op : UnaryOp} {r : V → Hp → VK → Prop} (ho : UnR X (unaryOp op) r) (ha : PE X a ta) : PE X (.UnaryOp op a pos) (tUn r ta) := by
  intro pins s σ H Q I h
  exact UnaryOp_ (thn (ha pins s σ H _ I h) fun v s1 ⟨x, H1, I1, r1, q1⟩ => ho pins s1 σ H1 x v Q I1 r1 q1)
theorem opI {f : Value → Value → Sem Value} {C : Int → Int → Prop} {g : Int → Int → Int}
    (rule : ∀ (i j : Int) (t u : Tok) (s : Shared) (Q : Value → Shared → Prop) (E : Value → Shared → Prop), C i j → Q (.int (g i j) s.toks) { s with toks := s.toks + 1 } → wpAny (model X.prog X.w) X.A (f (.int i t) (.int j u)) Q E s) :
    OpR X f (rI C fun i j => .int (g i j)) := by
  intro pins s σ H x y v u Q I rx ry h
  obtain ⟨i, j, rfl, rfl, hc, q⟩ := h
  obtain ⟨t, rfl⟩ := rx
  obtain ⟨t', rfl⟩ := ry
  exact rule i j t t' s _ _ hc ⟨.int (g i j), H, I.tok _, ⟨_, rfl⟩, q⟩
theorem opI0 {f : Value → Value → Sem Value} {g : Int → Int → Int}
    (rule : ∀ (i j : Int) (t u : Tok) (s : Shared) (Q : Value → Shared → Prop) (E : Value → Shared → Prop), Q (.int (g i j) s.toks) { s with toks := s.toks + 1 } → wpAny (model X.prog X.w) X.A (f (.int i t) (.int j u)) Q E s) :
    OpR X f (rI0 fun i j => .int (g i j)) := by
  intro pins s σ H x y v u Q I rx ry h
  obtain ⟨i, j, rfl, rfl, q⟩ := h
  obtain ⟨t, rfl⟩ := rx
  obtain ⟨t', rfl⟩ := ry
  exact rule i j t t' s _ _ ⟨.int (g i j), H, I.tok _, ⟨_, rfl⟩, q⟩
theorem opB0 {f : Value → Value → Sem Value} {g : Int → Int → Bool}
    (rule : ∀ (i j : Int) (t u : Tok) (s : Shared) (Q : Value → Shared → Prop) (E : Value → Shared → Prop), Q (.bool (g i j)) s → wpAny (model X.prog X.w) X.A (f (.int i t) (.int j u)) Q E s) :
    OpR X f (rI0 fun i j => .bl (g i j)) := by
  intro pins s σ H x y v u Q I rx ry h
  obtain ⟨i, j, rfl, rfl, q⟩ := h
  obtain ⟨t, rfl⟩ := rx
  obtain ⟨t', rfl⟩ := ry
  exact rule i j t t' s _ _ ⟨.bl (g i j), H, I, rfl, q⟩

def CDiv (i j : Int) : Prop := 0 < j ∧ j < 1073741824
def CPow (i j : Int) : Prop := 0 ≤ j ∧ j ≤ 1000000 ∧ i.natAbs < 2 ^ 64
def CMul (i j : Int) : Prop := (-(2 ^ 64) < i ∧ i < 2 ^ 64) ∨ (-(2 ^ 64) < j ∧ j < 2 ^ 64)
theorem CMul.ok {i j : Int} (h : CMul i j) : IntMulOk i j := by
  rcases h with ⟨h1, h2⟩ | ⟨h1, h2⟩
  · exact .of_left (intBits_le_64 h1 h2)
  · exact .of_right (intBits_le_64 h1 h2)
theorem op_add : OpR X (binaryOp .Add) (rI0 fun i j => .int (i + j)) := opI0 fun _ _ _ _ _ _ _ q => add_int q
theorem op_sub : OpR X (binaryOp .Sub) (rI0 fun i j => .int (i - j)) := opI0 fun _ _ _ _ _ _ _ q => sub_int q
theorem op_mul : OpR X (binaryOp .Mult) (rI CMul fun i j => .int (i * j)) := opI fun _ _ _ _ _ _ _ hc q => mul_int q hc.ok
/-- // by a positive divisor -/
theorem op_fdiv : OpR X (binaryOp .FloorDiv) (rI CDiv fun i j => .int (i / j)) := opI fun i j _ _ _ _ _ hc q => by
  have h1 : (0 : Int) < j := hc.1
  have h2 : j < 1073741824 := hc.2
  exact floordiv_int (by omega) (by rw [Int.fdiv_eq_ediv_of_nonneg i (by omega)]; exact q) (.inl (PyProof.noPylong_small (by omega)))
/-- % by a positive divisor of any size -/
theorem op_mod : OpR X (binaryOp .Mod) (rI (fun _ j => 0 < j) fun i j => .int (i % j)) := opI fun i j _ _ _ _ _ hc q => by
  have h1 : (0 : Int) < j := hc
  exact mod_int' (by omega) (by rw [Int.fmod_eq_emod_of_nonneg i (by omega)]; exact q)
theorem op_pow : OpR X (binaryOp .Pow) (rI CPow fun i j => .int (i ^ j.toNat)) := opI fun _ _ _ _ _ _ _ hc q => pow_int_small hc.1 hc.2.1 hc.2.2 q
theorem unI {f : Value → Sem Value} {g : Int → Int}
    (rule : ∀ (i : Int) (t : Tok) (s : Shared) (Q : Value → Shared → Prop) (E : Value → Shared → Prop), Q (.int (g i) s.toks) { s with toks := s.toks + 1 } → wpAny (model X.prog X.w) X.A (f (.int i t)) Q E s) :
    UnR X f (rU fun i => .int (g i)) := by
  intro pins s σ H x v Q I rx h
  obtain ⟨i, rfl, q⟩ := h
  obtain ⟨t, rfl⟩ := rx
  exact rule i t s _ _ ⟨.int (g i), H, I.tok _, ⟨_, rfl⟩, q⟩
theorem un_neg : UnR X (unaryOp .USub) (rU fun i => .int (-i)) := unI fun _ _ _ _ _ q => neg_int q
end

/-- the scalars that == tells apart as data does -/
def scal : V → V → Bool
  | .non, .non => true | .non, .int _ => true | .int _, .non => true | .non, .bl _ => true | .bl _, .non => true | .non, .str _ => true | .str _, .non => true
  | .int _, .int _ => true | .bl _, .bl _ => true | .str _, .str _ => true | .byt _, .byt _ => true
  | .int _, .str _ => true | .str _, .int _ => true | .bl _, .str _ => true | .str _, .bl _ => true
  | _, _ => false
def rEq : R2 := fun x y H Q => scal x y = true ∧ Q (.bl (decide (x = y))) H
def rNe : R2 := fun x y H Q => scal x y = true ∧ Q (.bl (!decide (x = y))) H

theorem dec_int {i j : Int} : decide (V.int i = V.int j) = (i == j) := by
  rw [Bool.eq_iff_iff]
  simp
theorem dec_bl {i j : Bool} : decide (V.bl i = V.bl j) = (i == j) := by
  rw [Bool.eq_iff_iff]
  simp
theorem dec_str {i j : Str} : decide (V.str i = V.str j) = (i == j) := by
  rw [Bool.eq_iff_iff]
  simp
theorem dec_byt {i j : Array UInt8} : decide (V.byt i = V.byt j) = (i.toList == j.toList) := by
  rw [Bool.eq_iff_iff]
  cases i
  cases j
  simp

section
variable {X : Cx} {a b c : Expr} {ta tb tc : TE} {pos : Pos}
theorem fin_bl {pins : List (Addr × Obj)} {σ : St} {H : Hp} {s : Shared} {Q : VK} {k k' : Bool} (I : Inv X pins σ H s) (q : Q (.bl k) H) (e : k = k') : EP X pins σ Q (.bool k') s := by
  subst e
  exact ⟨.bl k, H, I, rfl, q⟩
theorem op_eq : OpR X (compareOp .Eq) rEq := by
  intro pins s σ H x y v u Q I rx ry h
  obtain ⟨hs, q⟩ := h
  cases x with
  | non =>
    cases rx
    cases y with
    | non => cases ry; exact PySem.EqNone.eq_none_none (fin_bl I q (by simp))
    | bl j => cases ry; exact PySem.EqNone.eq_none_bool (fin_bl I q (by simp))
    | int j => obtain ⟨t', rfl⟩ := ry; exact PySem.EqNone.eq_none_int (fin_bl I q (by simp))
    | str j => obtain ⟨t', rfl⟩ := ry; exact PySem.EqNone.eq_none_str (fin_bl I q (by simp))
    | _ => exact absurd (show false = true from hs) Bool.false_ne_true
  | bl i =>
    cases rx
    cases y with
    | non => cases ry; exact PySem.EqNone.eq_bool_none (fin_bl I q (by simp))
    | bl j => cases ry; exact eq_bool (fin_bl I q dec_bl)
    | str j => obtain ⟨t', rfl⟩ := ry; exact PySem.EqMixed.eq_bool_str (fin_bl I q (by simp))
    | _ => exact absurd (show false = true from hs) Bool.false_ne_true
  | int i =>
    obtain ⟨t, rfl⟩ := rx
    cases y with
    | non => cases ry; exact PySem.EqNone.eq_int_none (fin_bl I q (by simp))
    | int j => obtain ⟨t', rfl⟩ := ry; exact eq_int (fin_bl I q dec_int)
    | str j => obtain ⟨t', rfl⟩ := ry; exact PySem.EqMixed.eq_int_str (fin_bl I q (by simp))
    | _ => exact absurd (show false = true from hs) Bool.false_ne_true
  | str i =>
    obtain ⟨t, rfl⟩ := rx
    cases y with
    | non => cases ry; exact PySem.EqNone.eq_str_none (fin_bl I q (by simp))
    | bl j => cases ry; exact PySem.EqMixed.eq_str_bool (fin_bl I q (by simp))
    | int j => obtain ⟨t', rfl⟩ := ry; exact PySem.EqMixed.eq_str_int (fin_bl I q (by simp))
    | str j => obtain ⟨t', rfl⟩ := ry; exact eq_str (fin_bl I q dec_str)
    | _ => exact absurd (show false = true from hs) Bool.false_ne_true
  | byt i =>
    obtain ⟨t, rfl⟩ := rx
    cases y with
    | byt j => obtain ⟨t', rfl⟩ := ry; exact PySem.W.eq_bytes (fin_bl I q dec_byt)
    | _ => exact absurd (show false = true from hs) Bool.false_ne_true
  | _ => cases y <;> exact absurd (show false = true from hs) Bool.false_ne_true
theorem op_ne : OpR X (compareOp .NotEq) rNe := by
  intro pins s σ H x y v u Q I rx ry h
  obtain ⟨hs, q⟩ := h
  cases x with
  | non =>
    cases rx
    cases y with
    | non => cases ry; exact PySem.EqNone.ne_none_none (fin_bl I q (by simp))
    | bl j => cases ry; exact PySem.EqNone.ne_none_bool (fin_bl I q (by simp))
    | int j => obtain ⟨t', rfl⟩ := ry; exact PySem.EqNone.ne_none_int (fin_bl I q (by simp))
    | str j => obtain ⟨t', rfl⟩ := ry; exact PySem.EqNone.ne_none_str (fin_bl I q (by simp))
    | _ => exact absurd (show false = true from hs) Bool.false_ne_true
  | bl i =>
    cases rx
    cases y with
    | non => cases ry; exact PySem.EqNone.ne_bool_none (fin_bl I q (by simp))
    | bl j => cases ry; exact ne_bool (fin_bl I q (congrArg not dec_bl))
    | str j => obtain ⟨t', rfl⟩ := ry; exact PySem.EqMixed.ne_bool_str (fin_bl I q (by simp))
    | _ => exact absurd (show false = true from hs) Bool.false_ne_true
  | int i =>
    obtain ⟨t, rfl⟩ := rx
    cases y with
    | non => cases ry; exact PySem.EqNone.ne_int_none (fin_bl I q (by simp))
    | int j => obtain ⟨t', rfl⟩ := ry; exact ne_int (fin_bl I q (congrArg not dec_int))
    | str j => obtain ⟨t', rfl⟩ := ry; exact PySem.EqMixed.ne_int_str (fin_bl I q (by simp))
    | _ => exact absurd (show false = true from hs) Bool.false_ne_true
  | str i =>
    obtain ⟨t, rfl⟩ := rx
    cases y with
    | non => cases ry; exact PySem.EqNone.ne_str_none (fin_bl I q (by simp))
    | bl j => cases ry; exact PySem.EqMixed.ne_str_bool (fin_bl I q (by simp))
    | int j => obtain ⟨t', rfl⟩ := ry; exact PySem.EqMixed.ne_str_int (fin_bl I q (by simp))
    | str j => obtain ⟨t', rfl⟩ := ry; exact ne_str (fin_bl I q (congrArg not dec_str))
    | _ => exact absurd (show false = true from hs) Bool.false_ne_true
  | byt i =>
    obtain ⟨t, rfl⟩ := rx
    cases y with
    | byt j => obtain ⟨t', rfl⟩ := ry; exact PySem.W.ne_bytes (fin_bl I q (congrArg not dec_byt))
    | _ => exact absurd (show false = true from hs) Bool.false_ne_true
  | _ => cases y <;> exact absurd (show false = true from hs) Bool.false_ne_true

theorem op_lt : OpR X (compareOp .Lt) (rI0 fun i j => .bl (decide (i < j))) := opB0 fun _ _ _ _ _ _ _ q => lt_int q
theorem op_le : OpR X (compareOp .LtE) (rI0 fun i j => .bl (decide (i ≤ j))) := opB0 fun _ _ _ _ _ _ _ q => le_int q
theorem op_gt : OpR X (compareOp .Gt) (rI0 fun i j => .bl (decide (j < i))) := opB0 fun _ _ _ _ _ _ _ q => gt_int q
theorem op_ge : OpR X (compareOp .GtE) (rI0 fun i j => .bl (decide (j ≤ i))) := opB0 fun _ _ _ _ _ _ _ q => ge_int q
/-- two rules for one operation: by cases -/
theorem OpR.or {f : Value → Value → Sem Value} {r r' : R2} (h : OpR X f r) (h' : OpR X f r') : OpR X f (fun x y H Q => r x y H Q ∨ r' x y H Q) := by
  intro pins s σ H x y v u Q I rx ry q
  rcases q with q | q
  · exact h pins s σ H x y v u Q I rx ry q
  · exact h' pins s σ H x y v u Q I rx ry q

theorem nomark (b : Expr) {op : CmpOp} (h : op ≠ .In := by decide) (h2 : op ≠ .NotIn := by decide) : behindInMarks op b = false := by
  have e1 : (op == CmpOp.In) = false := by cases op <;> first | rfl | exact absurd rfl h
  have e2 : (op == CmpOp.NotIn) = false := by cases op <;> first | rfl | exact absurd rfl h2
  cases b <;> simp [behindInMarks, e1, e2]
/-- a comparison as a value; hm: nomark b, or (for in, not in) by with_unfolding_all rfl -/
theorem pe_cmpR {op : CmpOp} {r : R2} (ho : OpR X (compareOp op) r) (ha : PE X a ta) (hb : PE X b tb) (hm : behindInMarks op b = false) : PE X (.Compare a [op] [b] pos) (tOp r ta tb) := by
  intro pins s σ H Q I h
  exact wpAny_Compare1 (binT ha hb I h fun v u s2 x y H2 I2 rx ry q => ho pins s2 σ H2 x y v u Q I2 rx ry q) hm
/-- a reading of a value as a test -/
def tTest (t : TE) : TT := fun σ H Q => t σ H fun x H' => ∃ k, x = .bl k ∧ Q k H'
theorem pt_cmpR {op : CmpOp} {r : R2} (ho : OpR X (compareOp op) r) (ha : PE X a ta) (hb : PE X b tb) (hm : behindInMarks op b = false) : PT X (.Compare a [op] [b] pos) (tTest (tOp r ta tb)) := by
  intro pins s σ H Q I h
  refine wpAny_isTrue_Compare1 (thn (ha pins s σ H _ I h) fun v s1 ⟨x, H1, I1, r1, q1⟩ => thn (hb pins s1 σ H1 _ I1 q1) fun u s2 ⟨y, H2, I2, r2, q2⟩ =>
    thn (ho pins s2 σ H2 x y v u _ I2 r1 r2 q2) fun c s3 ⟨z, H3, I3, r3, k, e, q3⟩ => ?_) hm
  subst e
  cases r3
  exact wpAny_truthy_bool ⟨H3, I3, q3⟩
/-- a op1 b op2 c -/
def tChain (r r' : R2) (ta tb tc : TE) : TE := fun σ H Q => ta σ H fun x H1 => tb σ H1 fun y H2 => r x y H2 fun z H3 => ∃ k, z = .bl k ∧
  (if k = true then tc σ H3 fun w' H4 => r' y w' H4 Q else Q (.bl false) H3)
theorem pe_chain {op op' : CmpOp} {r r' : R2} (ho : OpR X (compareOp op) r) (ho' : OpR X (compareOp op') r') (ha : PE X a ta) (hb : PE X b tb) (hc : PE X c tc)
    (hm : lastMarks [op, op'] [b, c] = false := by with_unfolding_all rfl) : PE X (.Compare a [op, op'] [b, c] pos) (tChain r r' ta tb tc) := by
  intro pins s σ H Q I h
  refine Compare_chain (thn (ha pins s σ H _ I h) fun v s1 ⟨x, H1, I1, r1, q1⟩ => chain_link (thn (hb pins s1 σ H1 _ I1 q1) fun u s2 ⟨y, H2, I2, r2, q2⟩ =>
    thn (ho pins s2 σ H2 x y v u _ I2 r1 r2 q2) fun d s3 ⟨z, H3, I3, r3, k, e, q3⟩ => ?_)) hm
  subst e
  cases r3
  refine wpAny_truthy_bool ?_
  cases k with
  | false => exact ite_ff ⟨.bl false, H3, I3, rfl, q3⟩
  | true => exact ite_tt (chain_last (thn (hc pins s3 σ H3 _ I3 q3) fun w' s4 ⟨z', H4, I4, r4, q4⟩ => ho' pins s4 σ H4 y z' u w' Q I4 r2 r4 q4))
/-- a value's truth by the abstract heap -/
def TruV (K : PySem.W.Frag) (x : V) (H : Hp) (k : Bool) : Prop :=
  match x with
  | .non => k = false
  | .bl b => k = b
  | .int i => k = (i != 0)
  | .str y => y.length ≤ sizeLine ∧ k = ((y.length : Int) != 0)
  | .byt y => y.size ≤ sizeLine ∧ k = ((y.size : Int) != 0)
  | .ref p => (∃ xs, SqL K H p xs ∧ k = !xs.isEmpty) ∨ (∃ xs, SqT K H p xs ∧ k = !xs.isEmpty) ∨ ∃ kvs, H p = some (.dK kvs) ∧ k = !kvs.isEmpty
  | _ => False
theorem isEmpty_kv {κ : Type} {kvs : List (κ × V)} {vs : List (κ × Value)} (r : KV kvs vs) : (!vs.isEmpty) = !kvs.isEmpty := by
  cases r <;> rfl
theorem isEmpty_of {xs : List V} {its : List Value} (r : Vals xs its) : (!its.toArray.isEmpty) = !xs.isEmpty := by
  cases r <;> simp
theorem line63 : (sizeLine : Nat) < 2 ^ 63 := by rw [sizeLine_eq]; decide
theorem tru_ok : TruR X (fun x H Q => ∃ k, TruV X.K x H k ∧ Q k H) := by
  intro pins s σ H x v Q I rx h
  obtain ⟨k, e, q⟩ := h
  have hl := line63
  have hs : sizeLine = 16777216 := sizeLine_eq
  cases x with
  | non =>
    cases rx
    have e' : k = false := e
    subst e'
    exact truthy_none ⟨H, I, q⟩
  | bl b =>
    cases rx
    have e' : k = b := e
    subst e'
    exact wpAny_truthy_bool ⟨H, I, q⟩
  | int i =>
    obtain ⟨t, rfl⟩ := rx
    have e' : k = (i != 0) := e
    subst e'
    exact PySem.P.truthy_int ⟨H, I, q⟩
  | str y =>
    obtain ⟨t, rfl⟩ := rx
    obtain ⟨hy, e'⟩ : y.length ≤ sizeLine ∧ k = ((y.length : Int) != 0) := e
    subst e'
    exact PySem.P.truthy_str (by omega) ⟨H, I.tok _, q⟩
  | byt y =>
    obtain ⟨t, rfl⟩ := rx
    obtain ⟨hy, e'⟩ : y.size ≤ sizeLine ∧ k = ((y.size : Int) != 0) := e
    subst e'
    exact PySem.W.truthy_bytes (by omega) ⟨H, I.tok _, q⟩
  | ref p =>
    cases rx
    have e' : (∃ xs, SqL X.K H p xs ∧ k = !xs.isEmpty) ∨ (∃ xs, SqT X.K H p xs ∧ k = !xs.isEmpty) ∨ ∃ kvs, H p = some (.dK kvs) ∧ k = !kvs.isEmpty := e
    rcases e' with ⟨xs, hx, e'⟩ | ⟨xs, hx, e'⟩ | ⟨kvs, hx, e'⟩
    · subst e'
      obtain ⟨its, r, pl, hz⟩ := I.list hx
      have hlen := r.length
      exact wpAny_truthy_list pl.isList (by simp only [List.size_toArray]; omega) ⟨H, I.tok _, by rw [isEmpty_of r]; exact q⟩
    · subst e'
      obtain ⟨its, r, pl, hz⟩ := I.tuple hx
      have hlen := r.length
      exact truthy_tuple pl (by simp only [List.size_toArray]; omega) ⟨H, I.tok _, by rw [isEmpty_of r]; exact q⟩
    · subst e'
      obtain ⟨hz, hS, vs, r, m⟩ : kvs.length ≤ sizeLine ∧ (p == sysModules) = false ∧ ∃ vs, KV kvs vs ∧ s.heap.DictOf (mixKind X.prog X.w) p vs := I.hok p _ hx
      have hlen : kvs.length = vs.length := Paired.length r
      exact wpAny_truthy_dict hS m (by omega) ⟨H, I.tok _, by rw [isEmpty_kv r]; exact q⟩
  | _ => exact (show False from e).elim
/-- any expression whose test is its value's truth (a name, a call, a subscript, a field ..: he by fun _ => rfl) -/
theorem pt_truth (ha : PE X a ta) (he : ∀ whole, isTrue a X.env whole = (do let v ← whole; standAt a.pos; holding [v] (truthy v))) :
    PT X a (fun σ H Q => ta σ H fun x H' => ∃ k, TruV X.K x H' k ∧ Q k H') := by
  intro pins s σ H Q I h
  exact isTrue_plain (thn (ha pins s σ H _ I h) fun v s1 ⟨x, H1, I1, r1, q1⟩ => tru_ok pins s1 σ H1 x v Q I1 r1 q1) (he _)

theorem vals1 {x : V} {us : List Value} (r : Vals [x] us) : ∃ u, us = [u] ∧ RelV x u := by
  cases r with
  | cons r1 r2 => cases r2; exact ⟨_, rfl, r1⟩
theorem vals2 {x y : V} {us : List Value} (r : Vals [x, y] us) : ∃ u w', us = [u, w'] ∧ RelV x u ∧ RelV y w' := by
  cases r with
  | cons r1 r2 =>
    cases r2 with
    | cons r3 r4 => cases r4; exact ⟨_, _, rfl, r1, r3⟩
theorem call_max2 (hc : X.calm = true) : CallR X (.builtin "max") (fun xs H Q => ∃ i j, xs = [.int i, .int j] ∧ Q (.int (if j > i then j else i)) H) := by
  intro pins s σ H xs us Q I r h
  obtain ⟨i, j, rfl, q⟩ := h
  obtain ⟨u, w', rfl, ⟨t, rfl⟩, ⟨t', rfl⟩⟩ := vals2 r
  refine max_two_ints (I.ok.hd hc) fun h' tk k => ⟨_, H, I.kept k, ?_, q⟩
  by_cases hj : j > i
  · rw [if_pos hj, if_pos hj]; exact ⟨_, rfl⟩
  · rw [if_neg hj, if_neg hj]; exact ⟨_, rfl⟩
theorem call_min2 (hc : X.calm = true) : CallR X (.builtin "min") (fun xs H Q => ∃ i j, xs = [.int i, .int j] ∧ Q (.int (if j < i then j else i)) H) := by
  intro pins s σ H xs us Q I r h
  obtain ⟨i, j, rfl, q⟩ := h
  obtain ⟨u, w', rfl, ⟨t, rfl⟩, ⟨t', rfl⟩⟩ := vals2 r
  refine min_two_ints (I.ok.hd hc) fun h' tk k => ⟨_, H, I.kept k, ?_, q⟩
  by_cases hj : j < i
  · rw [if_pos hj, if_pos hj]; exact ⟨_, rfl⟩
  · rw [if_neg hj, if_neg hj]; exact ⟨_, rfl⟩
end
end L2

namespace L2
open PySem PySem.Spec PyProof.Rows

structure ObjM (h : Heap) (x dx C : Addr) (mA : Str → Option Value) : Prop where
  obj : h.get? x = some (PySem.W.instObj C dx)
  ns : h.Ns1 dx mA
  ne : dx ≠ x

theorem lookIn_ns {h : Heap} {dx : Addr} {mA : Str → Option Value} (n : h.Ns1 dx mA) : ∃ od, h.get? dx = some od ∧ ∀ name, PySem.W.lookIn name od = some (mA name) := by
  obtain ⟨o, es, ep, ho, hd, hk, _, hm⟩ := n
  refine ⟨o, ho, fun name => ?_⟩
  have e := hm name
  unfold nsFind findBy at e
  rw [← Array.find?_toList] at e
  unfold PySem.W.lookIn
  rw [hd]
  dsimp only
  split
  · rename_i y q
    rw [q] at e
    exact congrArg some e
  · rename_i q
    rw [q] at e
    have a : es.toList.any (·.refKey) = false := by
      rw [List.any_eq_false]
      intro y hy
      obtain ⟨z, t, hkey⟩ := hk y (Array.mem_toList_iff.mp hy)
      simp [DictEntry.refKey, hkey]
    have a' : ¬ es.toList.any (·.refKey) = true := by rw [a]; exact Bool.false_ne_true
    rw [if_neg a']
    exact congrArg some e

theorem ObjM.look {h : Heap} {x dx C : Addr} {mA : Str → Option Value} (I : ObjM h x dx C mA) : ∃ od, PySem.W.InstAt h x (PySem.W.instObj C dx) C (some od) ∧ ∀ name, PySem.W.lookIn name od = some (mA name) :=
  let ⟨od, ho, hl⟩ := lookIn_ns I.ns
  ⟨od, ⟨I.obj, rfl, rfl, ho⟩, hl⟩

section
variable {prog : Program} {w : World} {A : Around} {E : Value → Shared → Prop} {s : Shared} {K : PySem.W.Frag} {x dx C f : Addr} {mA : Str → Option Value} {name : Str} {v : Value}

end

section
variable {P : Program} {w : World} {H H' : Hp} {h h' : Heap} {a C dx : Addr} {fs fs' : List (Str × V)}
theorem ins_get (hok : HOk P w H h) (e : H a = some (.ins C dx fs)) : ∃ mA, ObjM h a dx C mA ∧ (∀ f, RelO (fs.lookup f) (mA f)) ∧ PySem.Within mA (fs.map (·.1)) ∧ fs.length ≤ 1000 ∧ H dx = some (.own a) := by
  obtain ⟨d, z, ne, ob, mA, n, r, q⟩ := (show ObjOk P w H h a (.ins C dx fs) from hok a _ e)
  exact ⟨mA, ⟨ob, n, ne⟩, r, q, z, d⟩
end

structure Cls (K : PySem.W.Frag) (C : Addr) : Prop where
  pg : PySem.W.plainGet K C Str.empty = true
  hd : PySem.W.hasDictIn K C = true
  po : PySem.W.plainOver K C = true
  sa : PySem.W.findIn K (.ref C) "__setattr__" = some (some (.builtin "object.__setattr__"))
theorem Cls.get {K : PySem.W.Frag} {C : Addr} (c : Cls K C) (f : Str) : PySem.W.plainGet K C f = true := c.pg
/-- a constant of the class -/
structure Con (K : PySem.W.Frag) (C : Addr) (f : Str) (v : V) (u : Value) : Prop where
  at_ : PySem.W.findIn K (.ref C) f = some (some u)
  rel : RelV v u
  get : PySem.W.specialIn K u "__get__" = some none
  cp : PySem.W.copiedNames.contains f = false
/-- a method: a plain def of the class or of one above it -/
structure Meth (K : PySem.W.Frag) (C : Addr) (m : Str) (f : Addr) : Prop where
  at_ : PySem.W.findIn K (.ref C) m = some (some (.ref f))
  fn : PySem.W.isFn K (.ref f) = true
  kp : PySem.W.keepIn K (.ref f) = true

section
variable {X : Cx} {pins : List (Addr × Obj)} {σ : St} {H : Hp} {s : Shared} {a C dx : Addr} {fs : List (Str × V)} {f : Str} {v : V} {A : Around} {E : Value → Shared → Prop}

/-- a new instance, tracked, without attributes -/
theorem Inv.made (I : Inv X pins σ H s) : Inv X pins σ (upd (upd H s.heap.objs.size (.own (s.heap.objs.size + 1))) (s.heap.objs.size + 1) (.ins C s.heap.objs.size []))
    { s with heap := (s.heap.push PySem.W.emptyDict).push (PySem.W.instObj C s.heap.objs.size) } := by
  have e1 : (s.heap.push PySem.W.emptyDict).get? s.heap.objs.size = some PySem.W.emptyDict := Heap.get?_push_size s.heap rfl
  have e2 : ((s.heap.push PySem.W.emptyDict).push (PySem.W.instObj C s.heap.objs.size)).get? (s.heap.objs.size + 1) = some (PySem.W.instObj C s.heap.objs.size) := by
    have := Heap.get?_push_size (s.heap.push PySem.W.emptyDict) (o := PySem.W.instObj C s.heap.objs.size) rfl
    rwa [Heap.size_push] at this
  have e3 : (s.heap.push PySem.W.emptyDict).Ns s.heap.objs.size (fun _ => none) := ⟨PySem.W.emptyDict, #[], _, e1, rfl, (fun e he => absurd he (by simp)), fun _ => rfl⟩
  have I1 := I.laid (a := s.heap.objs.size) (o := .own (s.heap.objs.size + 1)) (h' := s.heap.push PySem.W.emptyDict) (t' := s.toks) (fun b u q => Heap.get?_push_of_some _ q) (Nat.le_refl _) ⟨_, e1⟩
  refine I1.laid (a := s.heap.objs.size + 1) (o := .ins C s.heap.objs.size []) (t' := s.toks) (fun b u q => Heap.get?_push_of_some _ q) (Nat.le_of_eq (Heap.size_push _ _)) ?_
  have ne : s.heap.objs.size ≠ s.heap.objs.size + 1 := Nat.ne_of_lt (Nat.lt_succ_self _)
  refine ⟨by rw [upd_ne ne, upd_same], Nat.zero_le _, ne, e2, fun _ => none, (Heap.Ns1.of_empty e3).at fun o q => Heap.get?_push_of_some _ q, fun _ => True.intro, fun y hy => absurd rfl hy⟩

end

section
variable {X : Cx} {o e value : Expr} {f : Str} {pos pos' tpos : Pos} {ta tv : TE}
end

section
variable {X : Cx} {pins : List (Addr × Obj)} {σ : St} {H : Hp} {s : Shared} {A : Around} {E : Value → Shared → Prop} {Q : Value → Shared → Prop} {c : Value} {b : Bool}
/-- the type of a value, as the fragment's deciders take it; for an instance its class -/
inductive TyOf (K : PySem.W.Frag) (H : Hp) : V → Value → Prop where
  | non : TyOf K H .non (.type "NoneType")
  | bl (x : Bool) : TyOf K H (.bl x) (.type "bool")
  | int (i : Int) : TyOf K H (.int i) (.type "int")
  | str (x : Str) : TyOf K H (.str x) (.type "str")
  | flt (x : UInt64) : TyOf K H (.flt x) (.type "float")
  | lst {a : Addr} {xs : List V} (e : H a = some (.lst xs)) : TyOf K H (.ref a) (.type "list")
  | frz {a : Addr} {o : Obj} {xs : List V} (e : H a = some (.frz o (.lst xs))) : TyOf K H (.ref a) (.type "list")
  | tup {a : Addr} {xs : List V} (e : H a = some (.tup xs)) : TyOf K H (.ref a) (.type "tuple")
  | dK {a : Addr} {kvs : List (Key × V)} (e : H a = some (.dK kvs)) : TyOf K H (.ref a) (.type "dict")
  | dT {a : Addr} {kvs : List (List Key × V)} (e : H a = some (.dT kvs)) : TyOf K H (.ref a) (.type "dict")
  | ins {a C dx : Addr} {fs : List (Str × V)} (e : H a = some (.ins C dx fs)) (cl : Cls K C) (ha : PySem.W.findIn K (.ref C) "__class__" = some (some (.builtin "object.__class__")))
      (hn : PySem.W.specialIn K (.builtin "object.__class__") "__get__" = some (some (.builtin "getset_descriptor.__get__"))) (htk : PySem.W.takesIn K (.builtin "object.__class__") = some true)
      (hm : PySem.W.mroIn K C (.type "object") = some true) : TyOf K H (.ref a) (.ref C)
/-- isinstance(x, c) for one class c, a built-in or an own one: kitOne's answer -/
theorem isinst_ok {x : V} {u t : Value} (I : Inv X pins σ H s) (rx : RelV x u) (ty : TyOf X.K H x t) (e : PySem.W.kitOne X.K t c = some b) (h : ∀ tk, Q (.bool b) { s with toks := tk }) :
    wpAny (model X.prog X.w) A (call (.builtin "isinstance") [u, c]) Q E s := by
  cases ty with
  | non => cases (show u = Value.none from rx); exact PySem.W.kia_one PySem.W.kitx_none I.kIn True.intro e (fun z => nomatch z) h
  | bl y => cases (show u = Value.bool y from rx); exact PySem.W.kia_one PySem.W.kitx_bool I.kIn True.intro e (fun z => nomatch z) h
  | int i => obtain ⟨t, q⟩ := (show ∃ t, u = Value.int i t from rx); cases q; exact PySem.W.kia_one PySem.W.kitx_int I.kIn True.intro e (fun z => nomatch z) h
  | str y => obtain ⟨t, q⟩ := (show ∃ t, u = Value.str y t from rx); cases q; exact PySem.W.kia_one PySem.W.kitx_str I.kIn True.intro e (fun z => nomatch z) h
  | flt y => obtain ⟨t, q⟩ := (show ∃ t, u = Value.float y t from rx); cases q; exact PySem.W.kia_one PySem.W.kitx_float I.kIn True.intro e (fun z => nomatch z) h
  | @lst a xs ea =>
    cases (show u = Value.ref a from rx)
    obtain ⟨_, _, n, _, h1⟩ := (show ObjOk X.prog X.w H s.heap a (.lst xs) from I.hok a _ ea)
    exact PySem.W.kia_one PySem.W.kitx_list I.kIn ⟨_, h1, rfl⟩ e (fun z => nomatch z) h
  | @frz a ob xs ea =>
    cases (show u = Value.ref a from rx)
    obtain ⟨_, _, _, n, _, h1⟩ := (show ObjOk X.prog X.w H s.heap a (.frz ob (.lst xs)) from I.hok a _ ea)
    exact PySem.W.kia_one PySem.W.kitx_list I.kIn ⟨_, h1, rfl⟩ e (fun z => nomatch z) h
  | @tup a xs ea =>
    cases (show u = Value.ref a from rx)
    obtain ⟨_, _, _, p⟩ := (show ObjOk X.prog X.w H s.heap a (.tup xs) from I.hok a _ ea)
    obtain ⟨o, h1, h2, _⟩ := p
    exact PySem.W.kia_one PySem.W.kitx_tuple I.kIn ⟨o, h1, h2⟩ e (fun z => nomatch z) h
  | @dK a kvs ea =>
    cases (show u = Value.ref a from rx)
    obtain ⟨_, _, vs, _, p⟩ := (show ObjOk X.prog X.w H s.heap a (.dK kvs) from I.hok a _ ea)
    obtain ⟨o, es, ep, h1, h2, _⟩ := p
    exact PySem.W.kia_one PySem.W.kitx_dict I.kIn ⟨o, h1, h2.1⟩ e (fun z => nomatch z) h
  | @dT a kvs ea =>
    cases (show u = Value.ref a from rx)
    obtain ⟨_, _, xs, _, o, es, ep, h1, h2, _⟩ := (show ObjOk X.prog X.w H s.heap a (.dT kvs) from I.hok a _ ea)
    exact PySem.W.kia_one PySem.W.kitx_dict I.kIn ⟨o, h1, h2.1⟩ e (fun z => nomatch z) h
  | @ins a C dx fs ea cl ha hn htk hm =>
    cases (show u = Value.ref a from rx)
    obtain ⟨mA, O, _⟩ := ins_get I.hok ea
    obtain ⟨od, J, _⟩ := O.look
    exact PySem.W.kia_one (PySem.W.kitx_own (cl.get _) cl.hd ha hn htk hm) I.kIn J e (fun z => nomatch z) h
end
end L2

namespace L2
open PySem PySem.Spec PyProof.Rows

structure Room (k : Nat) (A : Around) : Prop where
  hd : A.handled = none
  dp : A.depth + 3 * k + 5 < recursionLimit
  un : A.units + 16 * k + 200 < cLine
theorem Room.mono {j k : Nat} {A : Around} (r : Room k A) (h : j ≤ k) : Room j A := ⟨r.hd, by have := r.dp; omega, by have := r.un; omega⟩
theorem Room.deeper {k : Nat} {A : Around} (r : Room (k + 1) A) (env : Env) : Room k (A.deeper env) :=
  ⟨r.hd, by have := r.dp; show A.depth + 1 + 3 * k + 5 < _; omega, by have := r.un; show A.units + 3 + 16 * k + 200 < _; omega⟩
theorem Room.in1 {k : Nat} {A : Around} (r : Room (k + 1) A) : Room k A.in1 :=
  ⟨r.hd, by have := r.dp; show A.depth + 3 * k + 5 < _; omega, by have := r.un; show A.units + 1 + 16 * k + 200 < _; omega⟩
theorem make_depth {A : Around} {C : Addr} {us : List Value} {kw : List (Str × Value)} : (A.under (.builtin "type.__call__" ⟨.ref C :: us, kw⟩)).depth = A.depth + 1 := by
  first | rfl | simp [Around.under, Code.weight, Code.isCreation, Code.isGuard, Code.isCaller, Code.frames, Code.isFrame, guardIds]
theorem make_units {A : Around} {C : Addr} {us : List Value} {kw : List (Str × Value)} : (A.under (.builtin "type.__call__" ⟨.ref C :: us, kw⟩)).units = A.units + 1 := by
  first | rfl | simp [Around.under, Code.cUnits, Code.frames, Code.isFrame]
theorem Room.make {k : Nat} {A : Around} (r : Room (k + 1) A) (C : Addr) (us : List Value) (kw : List (Str × Value)) : Room k (A.under (.builtin "type.__call__" ⟨.ref C :: us, kw⟩)) :=
  ⟨r.hd, by have := r.dp; rw [make_depth]; omega, by have := r.un; rw [make_units]; omega⟩
theorem Room.depth {k : Nat} {A : Around} (r : Room k A) : A.depth < recursionLimit := by have := r.dp; omega
theorem Room.units {k : Nat} {A : Around} (r : Room k A) : A.units + 64 < cLine := by have := r.un; omega
theorem Room.units0 {k : Nat} {A : Around} (r : Room k A) : A.units < cLine := by have := r.un; omega

def tNil : TA := fun _ H Q => Q [] H
def tCons (ta : TE) (tr : TA) : TA := fun σ H Q => ta σ H fun x H1 => tr σ H1 fun xs H2 => Q (x :: xs) H2
section
variable {X : Cx} {e : Expr} {es : List Expr} {te : TE} {t : TA} {pos : Pos}
theorem pa_nil : PA X [] tNil := fun _ _ _ _ H Q I h => Calls.spliced_nil ⟨[], H, I, .nil, h⟩
theorem pa_cons (ha : PE X e te) (hr : PA X es t) (hs : starEach (e :: es) X.env = (false, eval e X.env) :: starEach es X.env := by rfl) : PA X (e :: es) (tCons te t) := by
  intro pos pins s σ H Q I h
  rw [hs]
  show wpAny _ _ (spliced ((false, eval e X.env) :: backTo pos (starEach es X.env))) _ _ s
  refine Calls.spliced_cons (thn (ha pins s σ H _ I h) fun u s1 ⟨x, H1, I1, r1, q1⟩ => ?_)
  exact thn (hr pos pins s1 σ H1 _ I1 q1) fun us s2 ⟨xs, H2, I2, r2, q2⟩ => ⟨x :: xs, H2, I2, .cons r1 r2, q2⟩

/-- a tuple, a list of written items -/
def tTup (t : TA) : TE := fun σ H Q => t σ H fun xs H1 => xs.length ≤ sizeLine ∧ ∀ p, H1 p = none → Q (.ref p) (upd H1 p (.tup xs))
def tLst (t : TA) : TE := fun σ H Q => t σ H fun xs H1 => xs.length ≤ sizeLine ∧ ∀ p, H1 p = none → Q (.ref p) (upd H1 p (.lst xs))
theorem pe_tup {x1} (h : PA X es t) : PE X (.Tuple es x1 pos) (tTup t) := by
  intro pins s σ H Q I hq
  refine wpAny_Tuple_spliced (thn (h pos pins s σ H _ I hq) fun us s1 ⟨xs, H1, I1, r, z, q⟩ => ⟨by rw [← r.length]; exact z, ?_⟩)
  have hf : H1 s1.heap.objs.size = none := I1.hok.fresh (Nat.le_refl _)
  refine ⟨.ref s1.heap.objs.size, upd H1 s1.heap.objs.size (.tup xs), I1.laid (t' := s1.toks) (fun b u e => Heap.get?_push_of_some _ e) (Nat.le_refl _) ?_, rfl, q _ hf⟩
  exact ⟨z, us, r, ⟨_, Heap.get?_push_size _ rfl, rfl, _, rfl⟩⟩
theorem pe_lst (h : PA X es t) : PE X (.List es pos) (tLst t) := by
  intro pins s σ H Q I hq
  refine wpAny_List_spliced (thn (h pos pins s σ H _ I hq) fun us s1 ⟨xs, H1, I1, r, z, q⟩ => ⟨by rw [← r.length]; exact z, ?_⟩)
  have hf : H1 s1.heap.objs.size = none := I1.hok.fresh (Nat.le_refl _)
  refine ⟨.ref s1.heap.objs.size, upd H1 s1.heap.objs.size (.lst xs), I1.laid (t' := s1.toks) (fun b u e => Heap.get?_push_of_some _ e) (Nat.le_refl _) ?_, rfl, q _ hf⟩
  exact ⟨z, us, 0, r, Heap.get?_push_size _ rfl⟩
end

/-- a def's promise: the bound arguments in the parameters' order, the heap, the wanted end, the wanted exception -/
abbrev Sp := List V → Hp → VK → XK → Prop
/-- how an exception lies behind a call (file 08 gives it): the callers' frames, abstract heap and state ahead of the call, the wish, the exception, the state -/
abbrev CXT := List Env → Hp → Shared → XK → Value → Shared → Prop

/-- the state at a call -/
structure Env0 (P : Program) (w : World) (K : PySem.W.Frag) (mg : Str → Option Value) (base : Heap) (A : Around) (outer : List Env) (s : Shared) (H : Hp) : Prop where
  frames : A.frames = some outer
  mod : Mod K mg base
  bs : ∀ b o, base.get? b = some o → s.heap.get? b = some o ∧ H b = none
  bsz : base.objs.size ≤ s.heap.objs.size
  funs : s.heap.FunFrames base outer
  frf : ∀ b ∈ frs outer, H b = none
  hok : HOk P w H s.heap
  bare : AllBare s.gens
/-- a call's end -/
def CE (outer : List Env) (P : Program) (w : World) (H : Hp) (s : Shared) (Q : VK) (u : Value) (s' : Shared) : Prop :=
  ∃ v H', s'.os = s.os ∧ AllBare s'.gens ∧ Un (frs outer) [] H H' s.heap s'.heap ∧ HOk P w H' s'.heap ∧ RelV v u ∧ Q v H'
def CR (CX : CXT) (outer : List Env) (P : Program) (w : World) (H : Hp) (s : Shared) (Q : VK) (E : XK) (r : Result) (s' : Shared) : Prop :=
  match r with
  | .ok (.ret u) => CE outer P w H s Q u s'
  | .ok _ => False
  | .error e => CX outer H s E e s'
structure FnOk (P : Program) (w : World) (K : PySem.W.Frag) (mg : Str → Option Value) (base : Heap) (CX : CXT) (k : Nat) (f : Addr) (fd : FuncData) (ps : List Str) (sp : Sp) : Prop where
  len : ∀ vs H Q E, sp vs H Q E → vs.length = ps.length
  run : ∀ (A : Around) (outer : List Env) (s : Shared) (H : Hp) (args : Args) (us : List Value) (vs : List V) (Q : VK) (E : XK), Room k A → Env0 P w K mg base A outer s H → BindsTo s fd args (ps.zip us) → Vals vs us → sp vs H Q E →
    codeAny (model P w) A (.call (.ref f) args) (CR CX outer P w H s Q E) s
theorem FnOk.mono {P : Program} {w : World} {K : PySem.W.Frag} {mg : Str → Option Value} {base : Heap} {CX : CXT} {j k : Nat} {f : Addr} {fd : FuncData} {ps : List Str} {sp : Sp} (F : FnOk P w K mg base CX j f fd ps sp) (h : j ≤ k) :
    FnOk P w K mg base CX k f fd ps sp := ⟨F.len, fun A outer s H args us vs Q E hr => F.run A outer s H args us vs Q E (hr.mono h)⟩
/-- a weaker promise -/
theorem FnOk.imp {P : Program} {w : World} {K : PySem.W.Frag} {mg : Str → Option Value} {base : Heap} {CX : CXT} {k : Nat} {f : Addr} {fd : FuncData} {ps : List Str} {sp sp' : Sp} (F : FnOk P w K mg base CX k f fd ps sp)
    (h : ∀ vs H Q E, sp' vs H Q E → sp vs H Q E) : FnOk P w K mg base CX k f fd ps sp' :=
  ⟨fun vs H Q E q => F.len vs H Q E (h _ _ _ _ q), fun A outer s H args us vs Q E hr he hb hv hs => F.run A outer s H args us vs Q E hr he hb hv (h _ _ _ _ hs)⟩

theorem Env0.make {P : Program} {w : World} {K : PySem.W.Frag} {mg : Str → Option Value} {base : Heap} {A : Around} {outer : List Env} {s : Shared} {H : Hp} (e : Env0 P w K mg base A outer s H) (C : Addr) (us : List Value) (kw : List (Str × Value)) :
    Env0 P w K mg base (A.under (.builtin "type.__call__" ⟨.ref C :: us, kw⟩)) outer s H := ⟨by first | exact e.frames | (simpa [Around.under, Code.envs, Code.isFrame, pushEnvs] using e.frames), e.mod, e.bs, e.bsz, e.funs, e.frf, e.hok, e.bare⟩
theorem Env0.in1 {P : Program} {w : World} {K : PySem.W.Frag} {mg : Str → Option Value} {base : Heap} {A : Around} {outer : List Env} {s : Shared} {H : Hp} (e : Env0 P w K mg base A outer s H) :
    Env0 P w K mg base A.in1 outer s H := ⟨e.frames, e.mod, e.bs, e.bsz, e.funs, e.frf, e.hok, e.bare⟩

section
variable {X : Cx} {pins : List (Addr × Obj)} {σ : St} {H : Hp} {s s' : Shared}
/-- from a body: what a callee wants -/
theorem Inv.env0 (I : Inv X pins σ H s) : Env0 X.prog X.w X.K X.mg X.base X.A X.stack s H :=
  ⟨I.ok.frames, I.ok.mod, I.bs, Nat.le_trans I.ok.bsz I.sz, I.stack, I.stkFree, I.hok, I.bare⟩
/-- behind a call -/
theorem Inv.after {Q : VK} {u : Value} (I : Inv X pins σ H s) (h : CE X.stack X.prog X.w H s Q u s') : EP X pins σ Q u s' := by
  obtain ⟨v, H', os, bare, un, hok, r, q⟩ := h
  obtain ⟨hh, g, d, t, os'⟩ := s'
  obtain rfl : os' = s.os := os
  exact ⟨v, H', I.call (h' := hh) (g' := g) (d' := d) (t' := t) (ch := []) un hok bare (fun b z => absurd z (by simp)), r, q⟩
end

/-- f(..): the written arguments, then the defaults dvs; E: what is wanted of an exception -/
def tCall (sp : Sp) (dvs : List V) (E : XK) (t : TA) : TE := fun σ H Q => t σ H fun vs H1 => sp (vs ++ dvs) H1 Q E
/-- how the parameters are bound: us the positional arguments, kw the keywords' values by name, ds the defaults that fill up -/
def Binds (K : PySem.W.Frag) (fd : FuncData) (ps : List Str) (ds : List Value) : Prop :=
  ∀ (s : Shared) (us : List Value), K.In s.heap → (us ++ ds).length = ps.length → BindsTo s fd ⟨us, []⟩ (ps.zip (us ++ ds))
/-- every parameter is given -/
theorem Binds.all {K : PySem.W.Frag} {fd : FuncData} {ps : List Str} (h : ∀ us : List Value, us.length = ps.length → bindArgs fd ⟨us, []⟩ = pure (ps.zip us)) : Binds K fd ps [] := fun s us _ hl => by
  rw [List.append_nil] at hl ⊢
  exact .of_eq (h us hl)

/-- an exception of a callee reaches what this body wants of exceptions -/
def Passes (CX : CXT) (X : Cx) (E : XK) : Prop := ∀ (pins : List (Addr × Obj)) (σ : St) (H : Hp) (s : Shared) (e : Value) (s' : Shared), Inv X pins σ H s → CX X.stack H s E e s' → X.xe e s'

section
variable {X : Cx} {CX : CXT} {k : Nat} {f C : Addr} {fd : FuncData} {ps : List Str} {sp : Sp} {dvs : List V} {ds : List Value} {E : XK} {x m : Str} {p pos apos : Pos} {e o : Expr} {es : List Expr} {ta : TE} {t : TA}

/-- the callee runs -/
theorem run_fn {pins : List (Addr × Obj)} {σ : St} {H : Hp} {s : Shared} {Q : VK} {us : List Value} {vs : List V} (F : FnOk X.prog X.w X.K X.mg X.base CX k f fd ps sp) (hr : Room k X.A) (hb : Binds X.K fd ps ds) (hd : Vals dvs ds) (hx : Passes CX X E)
    (I : Inv X pins σ H s) (r : Vals vs us) (h : sp (vs ++ dvs) H Q E) : wpAny (model X.prog X.w) X.A (call (.ref f) us) (EP X pins σ Q) X.xe s := by
  have r2 : Vals (vs ++ dvs) (us ++ ds) := r.append hd
  have hl : (us ++ ds).length = ps.length := by rw [← r2.length]; exact F.len _ _ _ _ h
  refine wpAny_call (codeAny_mono (F.run X.A X.stack s H ⟨us, []⟩ (us ++ ds) (vs ++ dvs) Q E hr I.env0 (hb s us I.kIn hl) r2 h) fun r s' hq => ?_)
  cases r with
  | error e => exact hx pins σ H s e s' I hq
  | ok fl =>
    cases fl with
    | ret u => exact I.after hq
    | next => exact False.elim hq
    | brk => exact False.elim hq
    | cont => exact False.elim hq

theorem pe_call (F : FnOk X.prog X.w X.K X.mg X.base CX k f fd ps sp) (hr : Room k X.A) (hg : Gl X x) (hm : X.mg x = some (.ref f)) (hk : PySem.W.keepIn X.K (.ref f) = true) (hb : Binds X.K fd ps ds) (hd : Vals dvs ds) (hx : Passes CX X E)
    (ha : PA X (e :: es) t) (hdb : (x == ("__debug__" : Str)) = false := by decide) (he : starEach (e :: es) X.env = (false, eval e X.env) :: starEach es X.env := by rfl) (hpl : (backTo pos (starEach es X.env)).any (·.1) = false := by rfl) :
    PE X (.Call (.Name x p) (e :: es) [] pos) (tCall sp dvs E t) := by
  intro pins s σ H Q I h
  refine wpAny_Call_Name_kw (ld_glob I hg hm ?_ hdb)
  refine PySem.W.callWith_K (h₀ := X.base) I.ok.mod.kin hk (thn (ha pos pins s σ H _ I h) fun us s1 ⟨vs, H1, I1, r, q⟩ => ⟨I1.kIn, ?_⟩) he hpl
  exact run_fn F hr hb hd hx I1 r q
/-- what a class must have to be made -/
structure Mk (K : PySem.W.Frag) (C f : Addr) : Prop where
  makes : PySem.W.makesIn K C = true
  init : PySem.W.findIn K (.ref C) "__init__" = some (some (.ref f))
  fn : PySem.W.isFn K (.ref f) = true
  kp : PySem.W.keepIn K (.ref C) = true

end

/-- the values of the keywords, from the left -/
def PK (X : Cx) (kws : List Keyword) (t : TA) : Prop :=
  ∀ (pos : Pos) (pins : List (Addr × Obj)) (s : Shared) (σ : St) (H : Hp) (Q : List V → Hp → Prop), Inv X pins σ H s → t σ H Q → wpAny (model X.prog X.w) X.A (evalAll ((backToKw pos (keywordEach kws X.env)).map (·.2))) (AP X pins σ Q) X.xe s
section
variable {X : Cx} {CX : CXT} {k : Nat} {f C : Addr} {fd : FuncData} {ps ks : List Str} {sp : Sp} {E : XK} {x m : Str} {p pos apos kpos : Pos} {e o : Expr} {es : List Expr} {kws : List Keyword} {te ta : TE} {t tk : TA} {nm : Option Str}
theorem pk_nil : PK X [] tNil := fun _ _ _ _ H Q I h => wpAny_evalAll_nil ⟨[], H, I, .nil, h⟩
theorem pk_cons (ha : PE X e te) (hr : PK X kws t) : PK X (⟨nm, e, kpos⟩ :: kws) (tCons te t) := by
  intro pos pins s σ H Q I h
  show wpAny _ _ (evalAll ((do let v ← eval e X.env; standAt pos; pure v) :: (backToKw pos (keywordEach kws X.env)).map (·.2))) _ _ s
  refine wpAny_evalAll_cons (wpAny_bind (thn (ha pins s σ H _ I h) fun u s1 ⟨x, H1, I1, r1, q1⟩ => wpAny_bind (wpAny_standAt (wpAny_pure ?_))))
  exact thn (hr pos pins s1 σ H1 _ I1 q1) fun us s2 ⟨xs, H2, I2, r2, q2⟩ => ⟨x :: xs, H2, I2, .cons r1 r2, q2⟩

/-- how a call with keywords binds: g puts the positional values us and the keywords' values ws (names ks) in the parameters' order, defaults among them -/
structure KBinds (K : PySem.W.Frag) (fd : FuncData) (ps ks : List Str) (g : List Value → List Value → List Value) (gV : List V → List V → List V) : Prop where
  to : ∀ (s : Shared) (us ws : List Value), K.In s.heap → (g us ws).length = ps.length → BindsTo s fd ⟨us, ks.zip ws⟩ (ps.zip (g us ws))
  rel : ∀ {vs : List V} {us : List Value} {zs : List V} {ws : List Value}, Vals vs us → Vals zs ws → Vals (gV vs zs) (g us ws)
variable {g : List Value → List Value → List Value} {gV : List V → List V → List V}
end

/-- names: the parameters first -/
structure FnScope (N P : List Str) (sc : Scope) : Prop where
  kind : sc.kind = .function
  co : sc.isCoroutine = false
  gen : sc.isGenerator = false
  nd : N.Nodup
  pre : N.take P.length = P
  par : ∀ x ∈ P, sc.names.lookup x = some .local ∨ sc.names.lookup x = some .cell
  nofree : ∀ y ∈ sc.names, y.2 ≠ .free

theorem bindL_out {kindOf : Str → Option NameKind} {x : Str} : ∀ {binds : List (Str × Value)} {m : Str → Option Value}, (∀ v, (x, v) ∉ binds) → bindL kindOf binds m x = m x
  | [], _, _ => rfl
  | (n, v) :: r, m, h => by
    unfold bindL
    rw [bindL_out fun w hw => h w (List.mem_cons_of_mem _ hw)]
    split
    · have : x ≠ n := by rintro rfl; exact h v List.mem_cons_self
      simp [this]
    · rfl
theorem bindC_out {kindOf : Str → Option NameKind} {x : Str} : ∀ {binds : List (Str × Value)} {m : Str → Option Value}, (∀ v, (x, v) ∉ binds) → bindC kindOf binds m x = m x
  | [], _, _ => rfl
  | (n, v) :: r, m, h => by
    unfold bindC
    rw [bindC_out fun w hw => h w (List.mem_cons_of_mem _ hw)]
    split
    · rfl
    · have : x ≠ n := by rintro rfl; exact h v List.mem_cons_self
      simp [this]
theorem bindL_get {kindOf : Str → Option NameKind} {x : Str} {v : Value} : ∀ {P : List Str} {vs : List Value} {i : Nat} {m : Str → Option Value}, P.Nodup → P[i]? = some x → vs[i]? = some v → kindOf x = some .local →
    bindL kindOf (P.zip vs) m x = some v
  | [], _, _, _, _, h, _, _ => by simp at h
  | _ :: _, [], _, _, _, _, h, _ => by simp at h
  | p :: P, w :: vs, 0, m, nd, h1, h2, hk => by
    simp at h1 h2; subst h1; subst h2
    show bindL kindOf ((p, w) :: P.zip vs) m p = _
    unfold bindL
    rw [bindL_out fun v hv => (List.nodup_cons.mp nd).1 (List.of_mem_zip hv).1, if_pos hk]
    simp
  | p :: P, w :: vs, i + 1, m, nd, h1, h2, hk => by
    show bindL kindOf ((p, w) :: P.zip vs) m x = _
    unfold bindL
    exact bindL_get (i := i) (List.nodup_cons.mp nd).2 (by simpa using h1) (by simpa using h2) hk
theorem bindC_get {kindOf : Str → Option NameKind} {x : Str} {v : Value} : ∀ {P : List Str} {vs : List Value} {i : Nat} {m : Str → Option Value}, P.Nodup → P[i]? = some x → vs[i]? = some v → kindOf x ≠ some .local →
    bindC kindOf (P.zip vs) m x = some v
  | [], _, _, _, _, h, _, _ => by simp at h
  | _ :: _, [], _, _, _, _, h, _ => by simp at h
  | p :: P, w :: vs, 0, m, nd, h1, h2, hk => by
    simp at h1 h2; subst h1; subst h2
    show bindC kindOf ((p, w) :: P.zip vs) m p = _
    unfold bindC
    rw [bindC_out fun v hv => (List.nodup_cons.mp nd).1 (List.of_mem_zip hv).1, if_neg hk]
    simp
  | p :: P, w :: vs, i + 1, m, nd, h1, h2, hk => by
    show bindC kindOf ((p, w) :: P.zip vs) m x = _
    unfold bindC
    exact bindC_get (i := i) (List.nodup_cons.mp nd).2 (by simpa using h1) (by simpa using h2) hk

/-- the names' values at the entry -/
def start (N : List Str) (vs : List V) : St := vs.map some ++ List.replicate (N.length - vs.length) none

/-- the context of a def's body, at its entry; an exception leaves the frame, then lies as CX says -/
def cxOf (CX : CXT) (P : Program) (w : World) (K : PySem.W.Frag) (mg : Str → Option Value) (base : Heap) (N : List Str) (qual : Str) (scope : Scope) (f : Addr) (cd : Value) (A : Around) (outer : List Env) (s : Shared) (H : Hp) (E : XK) : Cx where
  prog := P
  w := w
  K := K
  mg := mg
  base := base
  A := A.deeper (envOfC qual scope s.heap.objs.size f cd)
  N := N
  s₀ := s
  H₀ := H
  env := envOfC qual scope s.heap.objs.size f cd
  outer := outer
  stack := envOfC qual scope s.heap.objs.size f cd :: outer
  ex := []
  calm := true
  fn := fun _ => true
  pn := []
  xe := fun e s' => wpAny (model P w) (A.deeper (envOfC qual scope s.heap.objs.size f cd)) (leaving (envOfC qual scope s.heap.objs.size f cd) e) (fun _ s'' => CX outer H s E e s'') (fun e' s'' => CX outer H s E e' s'') s'

theorem cell_has {sc : Scope} {n : Nat} {x : Str} (h : sc.names.lookup x = some .cell) : ∃ c, (cellsFrom n sc.names []).lookup x = some c := by
  have q := PySem.W.cellsFrom_some sc.names n [] (.inl h)
  exact Option.isSome_iff_exists.mp q

theorem inv_start {CX : CXT} {P : Program} {w : World} {K : PySem.W.Frag} {mg : Str → Option Value} {base : Heap} {N ps : List Str} {qual : Str} {scope : Scope} {f : Addr} {cd : Value} {A : Around} {outer : List Env} {s s1 : Shared} {H : Hp} {E : XK} {us : List Value} {vs : List V}
    (S : FnScope N ps scope) (hd : A.handled = none) (e0 : Env0 P w K mg base A outer s H) (hl : vs.length = ps.length) (r : Vals vs us)
    (x : InCallC s s.heap.objs.size (bindL (envOfC qual scope s.heap.objs.size f cd).kindOf (ps.zip us) fun _ => none) (cellsFrom (s.heap.objs.size + 1) scope.names []) (bindC (envOfC qual scope s.heap.objs.size f cd).kindOf (ps.zip us) fun _ => none) s1) :
    Inv (cxOf CX P w K mg base N qual scope f cd A outer s H E) [] (start N vs) H s1 := by
  have hpl : ps.length ≤ N.length := by have := congrArg List.length S.pre; rw [List.length_take] at this; omega
  obtain ⟨h1, tk, rfl, hk⟩ := x.done
  have noA : ∀ b : Addr, b ∉ (cxOf CX P w K mg base N qual scope f cd A outer s H E).ex := fun b z => absurd (show b ∈ ([] : List Addr) from z) (by simp)
  refine ⟨⟨e0.mod, S.kind, rfl, rfl, Nat.le_refl _, fun y z c h1 h2 => ?_, fun y hy => ?_, fun y c _ h => ?_, fun _ => hd, Around.frames_deeper e0.frames, .inr ⟨rfl, rfl⟩, fun b z => absurd z (noA b), e0.bs, e0.bsz, fun b _ _ => noA b, fun b z => absurd z (noA b), e0.funs, e0.frf⟩,
    rfl, e0.bare, Un.kept hk, ⟨_, x.toInCall.ns, fun i y v h1 h2 h3 => ?_⟩, fun y c h => ⟨_, x.cell y c h⟩, e0.hok.fresh (Nat.le_refl _), fun y c h => ?_, fun p hp => absurd (show p ∈ ([] : List (Addr × Obj)) from hp) (by simp), e0.hok.kept hk, ?_⟩
  · exact name_of_addr x.apart (PySem.mem_of_lookup h1) (PySem.mem_of_lookup h2)
  · have hy : scope.names.lookup y = some .cell ∨ scope.names.lookup y = some .free := hy
    rcases hy with hy | hy
    · exact cell_has hy
    · exact absurd rfl (S.nofree _ (PySem.mem_of_lookup hy))
  · exact Nat.le_of_lt (x.above y c (PySem.mem_of_lookup h))
  · have hi : i < vs.length := by
      unfold start at h2
      by_cases hi : i < vs.length
      · exact hi
      · rw [List.getElem?_append_right (by simpa using hi)] at h2
        rw [List.getElem?_replicate] at h2
        split at h2 <;> cases h2
    have ha : vs[i]? = some v := by
      unfold start at h2
      rw [List.getElem?_append_left (by simpa using hi), List.getElem?_map] at h2
      cases e : vs[i]? with
      | none => rw [e] at h2; cases h2
      | some a => rw [e] at h2; cases h2; rfl
    obtain ⟨u, hu, rv⟩ := r.get ha
    have hp : ps[i]? = some y := by
      rw [← S.pre, List.getElem?_take_of_lt (by omega)]; exact h1
    have ndP : ps.Nodup := by rw [← S.pre]; exact S.nd.sublist (List.take_sublist _ _)
    refine ⟨u, rv, ?_⟩
    rcases S.par y (List.mem_of_getElem? hp) with k | k
    · exact .inl ⟨k, bindL_get ndP hp hu k⟩
    · obtain ⟨c, e⟩ := cell_has (n := s.heap.objs.size + 1) k
      refine .inr ⟨.inl k, c, e, ?_⟩
      have q := x.cell y c e
      rw [bindC_get ndP hp hu (by show scope.names.lookup y ≠ _; rw [k]; decide)] at q
      exact q
  · exact e0.hok.fresh (Nat.le_of_lt (x.above y c (PySem.mem_of_lookup h)))
  · unfold start
    show _ = N.length
    rw [List.length_append, List.length_map, List.length_replicate]
    omega

/-- THE RULE: a def (or a method) of the text, by its body. The body's reading t is chosen for each entry; it is run at the parameters' values -/
theorem fn_of {CX : CXT} {P : Program} {w : World} {K : PySem.W.Frag} {mg : Str → Option Value} {base : Heap} {k : Nat} {f : Addr} {name qual : Str} {params : Arguments} {body : List Stmt} {scope : Scope} {dV kV doc pm cdv ct oc : Value} {an od : Option Addr}
    {osl : Array (Option Value)} {N ps : List Str} {sp : Sp} (lk : K.lookup f = some ⟨oc, od, .func (PySem.W.fnOf name qual params body scope dV kV doc pm an cdv ct), osl⟩) (hcd : PySem.W.codeIn K cdv qual = true) (S : FnScope N ps scope)
    (len : ∀ vs H Q E, sp vs H Q E → vs.length = ps.length)
    (hbody : ∀ (A : Around) (outer : List Env) (s : Shared) (H : Hp) (vs : List V) (Q : VK) (E : XK), Room k (A.deeper (envOfC qual scope s.heap.objs.size f cdv)) → sp vs H Q E →
      ∃ t, PSs (cxOf CX P w K mg base N qual scope f cdv A outer s H E) body t ∧ t { nx := fun _ H' => Q .non H', rt := Q } (start N vs) H) :
    FnOk P w K mg base CX (k + 1) f (PySem.W.fnOf name qual params body scope dV kV doc pm an cdv ct) ps sp := by
  refine ⟨len, fun A outer s H args us vs Q E hr e0 hb r hsp => ?_⟩
  have hl := len _ _ _ _ hsp
  have KX : K.In s.heap := e0.mod.kin.keeps fun b o e => (e0.bs b o e).1
  have lim : s.heap.NoLimit := e0.mod.nolimit.keeps fun b o e => (e0.bs b o e).1
  have hkind : ∀ y ∈ ps.zip us, scope.names.lookup y.1 = some .local ∨ (scope.names.lookup y.1 = some .cell ∧ ((cellsFrom (s.heap.objs.size + 1) scope.names []).lookup y.1).isSome = true) := fun ⟨n, v⟩ hy => by
    rcases S.par n (List.of_mem_zip hy).1 with q | q
    · exact .inl q
    · exact .inr ⟨q, PySem.W.cellsFrom_some _ _ _ (.inl q)⟩
  refine codeAny_call_function hr.depth (KX _ _ lk) rfl S.co S.gen rfl (PySem.W.codeRec_of KX hcd) (hb _ _ _ _ ?_)
  refine wpAny_newFunctionEnv_cells S.kind hkind fun env he s1 x => ?_
  subst he
  refine ⟨lim.keeps x.toInCall.keep, codeAny_func ?_⟩
  obtain ⟨t, ht, hq⟩ := hbody A outer s H vs Q E (hr.deeper _) hsp
  have I : Inv (cxOf CX P w K mg base N qual scope f cdv A outer s H E) [] (start N vs) H s1 := inv_start S hr.hd e0 hl r x
  refine wpAny_mono (ht [] s1 (start N vs) H _ I hq) (fun fl s' hs => ?_) fun e s' hs => hs
  have fin : ∀ {σ' : St} {H' : Hp} {v : V} {u : Value}, Inv (cxOf CX P w K mg base N qual scope f cdv A outer s H E) [] σ' H' s' → RelV v u → Q v H' → CE outer P w H s Q u s' :=
    fun {σ' H' v u} J rv q => ⟨v, H', J.os, J.bare, J.base, J.hok, rv, q⟩
  cases fl with
  | ret u =>
    obtain ⟨v, σ', H', J, rv, q⟩ := hs
    exact fin J rv q
  | next =>
    obtain ⟨σ', H', J, q⟩ := hs
    exact fin (v := V.non) (u := Value.none) J rfl q
  | brk =>
    obtain ⟨_, _, _, q⟩ := hs
    exact False.elim q
  | cont =>
    obtain ⟨_, _, _, q⟩ := hs
    exact False.elim q
end L2

namespace L2
open PySem PySem.Spec PyProof.Rows
section
variable {X : Cx} {x : Str} {p pos : Pos} {e : Expr} {es : List Expr} {t : TA} {id T : String} {r : List V → Hp → VK → Prop}

def tCB (r : List V → Hp → VK → Prop) (t : TA) : TE := fun σ H Q => t σ H fun vs H1 => r vs H1 Q
/-- f(e, ..), f a built-in function -/
theorem pe_callB (hc : CallR X (.builtin id) r) (hg : Gl X x) (hm : X.mg x = none) (hv : bootBuiltins x = some (.builtin id)) (ha : PA X (e :: es) t) (hn : x ≠ "__name__" := by decide) (hdb : (x == ("__debug__" : Str)) = false := by decide)
    (he : starEach (e :: es) X.env = (false, eval e X.env) :: starEach es X.env := by rfl) (hpl : (backTo pos (starEach es X.env)).any (·.1) = false := by rfl) : PE X (.Call (.Name x p) (e :: es) [] pos) (tCB r t) := by
  intro pins s σ H Q I h
  refine wpAny_Call_Name_kw (ld_blt I hg hm hv ?_ hn hdb)
  exact PyProof.Rows.callWith_builtin1 (thn (ha pos pins s σ H _ I h) fun us s1 ⟨vs, H1, I1, r1, q1⟩ => hc pins s1 σ H1 vs us Q I1 r1 q1) he hpl
/-- T(e, ..), T a built-in type -/
theorem pe_callTy (hc : CallR X (.type T) r) (hg : Gl X x) (hm : X.mg x = none) (hv : bootBuiltins x = some (.type T)) (ha : PA X (e :: es) t) (hn : x ≠ "__name__" := by decide) (hdb : (x == ("__debug__" : Str)) = false := by decide)
    (he : starEach (e :: es) X.env = (false, eval e X.env) :: starEach es X.env := by rfl) (hpl : (backTo pos (starEach es X.env)).any (·.1) = false := by rfl) : PE X (.Call (.Name x p) (e :: es) [] pos) (tCB r t) := by
  intro pins s σ H Q I h
  refine wpAny_Call_Name_kw (ld_blt I hg hm hv ?_ hn hdb)
  exact PyProof.Rows.callWith_type1 (thn (ha pos pins s σ H _ I h) fun us s1 ⟨vs, H1, I1, r1, q1⟩ => hc pins s1 σ H1 vs us Q I1 r1 q1) he hpl
end
end L2

namespace HT
open PySem PyProof.Rows

section
open PySem.SeqAt
open PySem.AutoSeq1 (wpAny_loadPart')
open PySem.MeetsSeq PySem.MeetsSeq2 PySem.MeetsSeq3

end

section
variable {prog : Program} {w : World} {A : Around} {E : Value → Shared → Prop} {s : Shared}

/-- a slice's bound as a place among n (d where it is left out) -/
def sIx (n d : Nat) : Option Int → Nat
  | none => d
  | some v => if v < 0 then (v + (n : Int)).toNat else min v.toNat n
theorem sIx_none (n d : Nat) : sIx n d none = d := rfl
theorem sIx_nat (n d k : Nat) : sIx n d (some (k : Int)) = min k n := by
  show (if (k : Int) < 0 then ((k : Int) + (n : Int)).toNat else min (k : Int).toNat n) = min k n
  rw [if_neg (by omega), Int.toNat_natCast]
end
end HT

namespace L2
open PySem PySem.Spec PyProof.Rows

abbrev TO := St → Hp → (Option Int → Hp → Prop) → Prop
/-- a slice's part (left out, or an int) -/
def PO (X : Cx) (e : Option Expr) (t : TO) : Prop :=
  ∀ (pins : List (Addr × Obj)) (s : Shared) (σ : St) (H : Hp) (Q : Option Int → Hp → Prop), Inv X pins σ H s → t σ H Q →
    wpAny (model X.prog X.w) X.A (evalPart e X.env) (fun u s' => ∃ o H', Inv X pins σ H' s' ∧ IsPart u o ∧ Q o H') X.xe s
def tNoPart : TO := fun _ H Q => Q none H
def tPart (t : TE) : TO := fun σ H Q => t σ H fun x H1 => ∃ i, x = .int i ∧ Q (some i) H1

theorem intsAre_of {ns : List Int} : ∀ {us : List Value}, Vals (ns.map V.int) us → IntsAre us ns := by
  induction ns with
  | nil => intro us r; rw [List.map_nil] at r; cases r; exact .nil
  | cons n ns ih =>
    intro us r
    rw [List.map_cons] at r
    cases r with
    | cons r1 r2 =>
      obtain ⟨t, e⟩ := r1
      subst e
      exact .cons n t (ih r2)

section
variable {X : Cx} {e : Expr} {te : TE} {lo hi : Option Expr} {tl th : TO} {pos p2 : Pos}

theorem po_none : PO X none tNoPart := by
  intro pins s σ H Q I h
  rw [evalPart_none]
  exact wpAny_pure ⟨none, H, I, .none, h⟩
theorem po_some (h : PE X e te) : PO X (some e) (tPart te) := by
  intro pins s σ H Q I hw
  rw [evalPart_some]
  refine thn (h pins s σ H _ I hw) fun u s1 ⟨x, H1, I1, r1, q1⟩ => ?_
  obtain ⟨i, rfl, q⟩ := q1
  obtain ⟨t, rfl⟩ := r1
  exact ⟨some i, H1, I1, .int i t, q⟩

/-- what a slice of a value is, by values: the slice object stands at sl -/
def SlR (X : Cx) (r : V → Option Int → Option Int → Hp → VK → Prop) : Prop :=
  ∀ (pins : List (Addr × Obj)) (s : Shared) (σ : St) (H : Hp) (x : V) (v vl vu : Value) (lo hi : Option Int) (sl : Addr) (Q : VK), Inv X pins σ H s → RelV x v → s.heap.IsSliceOf sl vl vu .none → IsPart vl lo → IsPart vu hi → r x lo hi H Q →
    ∃ T id, typeLookup (.type T) "__getitem__" = pure (some (.builtin id)) ∧ s.TypeIs v T ∧ wpAny (model X.prog X.w) X.A (getItem v (.ref sl)) (EP X pins σ Q) X.xe s
theorem SlR.or {r r' : V → Option Int → Option Int → Hp → VK → Prop} (h : SlR X r) (h' : SlR X r') : SlR X (fun x lo hi H Q => r x lo hi H Q ∨ r' x lo hi H Q) := by
  intro pins s σ H x v vl vu lo hi sl Q I rx hs pl pu q
  rcases q with q | q
  · exact h pins s σ H x v vl vu lo hi sl Q I rx hs pl pu q
  · exact h' pins s σ H x v vl vu lo hi sl Q I rx hs pl pu q
def tSl (r : V → Option Int → Option Int → Hp → VK → Prop) (te : TE) (tl th : TO) : TE := fun σ H Q => te σ H fun x H1 => tl σ H1 fun l H2 => th σ H2 fun u H3 => r x l u H3 Q
/-- a[lo:hi], any a -/
theorem pe_slice {r : V → Option Int → Option Int → Hp → VK → Prop} (hr : SlR X r) (he : PE X e te) (hl : PO X lo tl) (hu : PO X hi th) : PE X (.Subscript e (.Slice lo hi none p2) pos) (tSl r te tl th) := by
  intro pins s σ H Q I h
  refine Subscript_ (thn (he pins s σ H _ I h) fun v s1 ⟨x, H1, I1, r1, q1⟩ => ?_)
  refine wpAny_Slice (thn (hl pins s1 σ H1 _ I1 q1) fun vl s2 ⟨l, H2, I2, pl, q2⟩ => thn (hu pins s2 σ H2 _ I2 q2) fun vu s3 ⟨u, H3, I3, pu, q3⟩ => ?_)
  rw [evalPart_none]
  refine wpAny_pure ?_
  have I4 : Inv X pins σ H3 { s3 with heap := s3.heap.push { cls := .type "slice", data := .fields #[vl, vu, .none] } } := I3.kept (t' := s3.toks) fun b ob q => Heap.get?_push_of_some _ q
  obtain ⟨T, id, hT, ht, hg⟩ := hr pins { s3 with heap := s3.heap.push { cls := .type "slice", data := .fields #[vl, vu, .none] } } σ H3 x v vl vu l u s3.heap.objs.size Q I4 r1 (Heap.IsSliceOf.new ..) pl pu q3
  show wpAny (model X.prog X.w) X.A (subscriptTail e (.Slice lo hi none p2) v (.ref s3.heap.objs.size)) (EP X pins σ Q) X.xe { s3 with heap := s3.heap.push { cls := .type "slice", data := .fields #[vl, vu, .none] } }
  exact tail_any (ops := [.ref s3.heap.objs.size, v]) ht hT hg (by with_unfolding_all rfl)

/-- the items of xs[lo:hi] -/
def cutV (xs : List V) (lo hi : Option Int) : List V := (xs.drop (HT.sIx xs.length 0 lo)).take (HT.sIx xs.length xs.length hi - HT.sIx xs.length 0 lo)
theorem cutV_length (xs : List V) (lo hi : Option Int) : (cutV xs lo hi).length ≤ xs.length := by
  unfold cutV
  rw [List.length_take, List.length_drop]
  omega
end
end L2

namespace L2
open PySem PySem.Spec PyProof.Rows

/-- the place that an index of any sign means -/
def ixN (n : Nat) (i : Int) : Option Nat := if 0 ≤ i then (if i < n then some i.toNat else none) else if -(n : Int) ≤ i then some (i + n).toNat else none
def atI {α : Type} (xs : List α) (i : Int) : Option α := (ixN xs.length i).bind fun j => xs[j]?
theorem ixN_seq {n : Nat} {i : Int} {j : Nat} (h : ixN n i = some j) : seqIndex? i n = some j ∧ j < n ∧ -(n : Int) ≤ i ∧ i < n := by
  unfold ixN at h
  by_cases h0 : 0 ≤ i
  · rw [if_pos h0] at h
    by_cases h1 : i < n
    · rw [if_pos h1] at h
      have e : i.toNat = j := Option.some.inj h
      exact ⟨by rw [seqIndex_of h0 h1, e], by omega, by omega, h1⟩
    · rw [if_neg h1] at h; cases h
  · rw [if_neg h0] at h
    by_cases h1 : -(n : Int) ≤ i
    · rw [if_pos h1] at h
      have e : (i + n).toNat = j := Option.some.inj h
      exact ⟨by rw [seqIndex_neg (by omega) h1, e], by omega, h1, by omega⟩
    · rw [if_neg h1] at h; cases h
theorem atI_get {α : Type} {xs : List α} {i : Int} {v : α} (h : atI xs i = some v) : ∃ j, seqIndex? i xs.length = some j ∧ xs[j]? = some v ∧ j < xs.length ∧ -(xs.length : Int) ≤ i ∧ i < xs.length := by
  unfold atI at h
  cases e : ixN xs.length i with
  | none => rw [e] at h; cases h
  | some j =>
    rw [e] at h
    obtain ⟨h1, h2, h3, h4⟩ := ixN_seq e
    exact ⟨j, h1, h, h2, h3, h4⟩
theorem atI_nat {α : Type} {xs : List α} {j : Nat} {v : α} (h : xs[j]? = some v) : atI xs (j : Int) = some v := by
  have hj : j < xs.length := (List.getElem?_eq_some_iff.mp h).1
  have e : ixN xs.length (j : Int) = some j := by
    unfold ixN
    rw [if_pos (by omega), if_pos (by omega)]; simp
  unfold atI; rw [e]; exact h
theorem atI_last {α : Type} (xs : List α) (v : α) : atI (xs ++ [v]) (-1) = some v := by
  have hl : (xs ++ [v]).length = xs.length + 1 := by simp
  have e : ixN (xs ++ [v]).length (-1) = some xs.length := by
    unfold ixN
    rw [hl, if_neg (by decide), if_pos (by omega)]
    congr 1
    omega
  unfold atI
  rw [e]
  show (xs ++ [v])[xs.length]? = some v
  simp

/-- what stands as an index of a plain subscript -/
def PlainIx (b : Expr) : Prop := ∀ o i, subscripted b false o i = operate [o, i] (getItem o i)
/-- a subscript by values -/
def IxR (X : Cx) (r : R2) : Prop :=
  ∀ (value slice : Expr) (pins : List (Addr × Obj)) (s : Shared) (σ : St) (H : Hp) (x y : V) (v u : Value) (Q : VK), Inv X pins σ H s → RelV x v → RelV y u → r x y H Q →
    subscripted slice false v u = operate [v, u] (getItem v u) → wpAny (model X.prog X.w) X.A (subscriptTail value slice v u) (EP X pins σ Q) X.xe s
/-- a call of a builtin's method by values: the receiver, the arguments -/
def MtR (X : Cx) (id : String) (r : V → List V → Hp → VK → Prop) : Prop :=
  ∀ (pins : List (Addr × Obj)) (s : Shared) (σ : St) (H : Hp) (x : V) (xs : List V) (v : Value) (us : List Value) (Q : VK), Inv X pins σ H s → RelV x v → Vals xs us → r x xs H Q →
    wpAny (model X.prog X.w) X.A (call (.builtin id) (v :: us)) (EP X pins σ Q) X.xe s
section
variable {X : Cx} {a b : Expr} {ta tb : TE} {pos : Pos}
theorem IxR.or {r r' : R2} (h : IxR X r) (h' : IxR X r') : IxR X (fun x y H Q => r x y H Q ∨ r' x y H Q) := by
  intro value slice pins s σ H x y v u Q I rx ry q hs
  rcases q with q | q
  · exact h value slice pins s σ H x y v u Q I rx ry q hs
  · exact h' value slice pins s σ H x y v u Q I rx ry q hs
theorem MtR.or {id : String} {r r' : V → List V → Hp → VK → Prop} (h : MtR X id r) (h' : MtR X id r') : MtR X id (fun x xs H Q => r x xs H Q ∨ r' x xs H Q) := by
  intro pins s σ H x xs v us Q I rx rs q
  rcases q with q | q
  · exact h pins s σ H x xs v us Q I rx rs q
  · exact h' pins s σ H x xs v us Q I rx rs q
/-- a[b] -/
theorem pe_ix {r : R2} (hr : IxR X r) (ha : PE X a ta) (hb : PE X b tb) (hs : PlainIx b) : PE X (.Subscript a b pos) (tOp r ta tb) := by
  intro pins s σ H Q I h
  exact Subscript_ (binT ha hb I h fun v u s2 x y H2 I2 rx ry q => hr a b pins s2 σ H2 x y v u Q I2 rx ry q (hs _ _))

def rIxL (K : PySem.W.Frag) : R2 := fun x y H Q => ∃ p xs i v, x = .ref p ∧ y = .int i ∧ SqL K H p xs ∧ atI xs i = some v ∧ Q v H
def rIxT (K : PySem.W.Frag) : R2 := fun x y H Q => ∃ p xs i v, x = .ref p ∧ y = .int i ∧ SqT K H p xs ∧ atI xs i = some v ∧ Q v H
theorem ix_list : IxR X (rIxL X.K) := by
  intro value slice pins s σ H x y v u Q I rx ry h hs
  obtain ⟨p, xs, i, z, rfl, rfl, hq, he, q⟩ := h
  cases rx
  obtain ⟨t, rfl⟩ := ry
  obtain ⟨its, r, pl, hz⟩ := I.list hq
  obtain ⟨j, h1, h2, h3, h4, h5⟩ := atI_get he
  obtain ⟨w, ew, rw'⟩ := r.get h2
  have hl := r.length
  have hn := line63
  have fin : EP X pins σ Q w s := ⟨z, H, I, rw', q⟩
  by_cases h0 : 0 ≤ i
  · have hj : i.toNat = j := by
      rw [seqIndex_of h0 h5] at h1
      exact Option.some.inj h1
    exact item_listR pl.isList h0 (by omega) (by rw [hj]; simpa using ew) fin hs
  · have hj : (i + (its.toArray.size : Int)).toNat = j := by
      rw [seqIndex_neg (by omega) h4] at h1
      rw [List.size_toArray, ← hl]
      exact Option.some.inj h1
    exact subscriptTail_builtinR (x := w) pl.isList.typeIs slot_list_getitem.lookup
      (wpAny_getItem_list_neg (Q := fun r s' => r = w ∧ EP X pins σ Q r s') pl.isList (by omega) (by rw [List.size_toArray] <;> omega) (by omega) (by rw [hj]; simpa using ew) ⟨rfl, fin⟩) hs
theorem ix_tup : IxR X (rIxT X.K) := by
  intro value slice pins s σ H x y v u Q I rx ry h hs
  obtain ⟨p, xs, i, z, rfl, rfl, hq, he, q⟩ := h
  cases rx
  obtain ⟨t, rfl⟩ := ry
  obtain ⟨its, r, pl, hz⟩ := I.tuple hq
  obtain ⟨j, h1, h2, h3, h4, h5⟩ := atI_get he
  obtain ⟨w, ew, rw'⟩ := r.get h2
  have hl := r.length
  have hn := line63
  have fin : EP X pins σ Q w s := ⟨z, H, I, rw', q⟩
  exact subscriptTail_builtinR (x := w) pl.typeIs slot_tuple_getitem.lookup
    (getItem_tuple (j := j) (Q := fun r s' => r = w ∧ EP X pins σ Q r s') pl (by omega) (by omega) (by rw [List.size_toArray, ← hl]; exact h1) (by simpa using ew) ⟨rfl, fin⟩) hs
/-- the list's object behind a store -/
theorem mapSeq_set (its : List Value) (n j : Nat) (u : Value) : Obj.mapSeq (·.setIfInBounds j u) { cls := .type "list", data := .seq its.toArray n } = { cls := .type "list", data := .seq (its.set j u).toArray n } := by
  simp [Obj.mapSeq]
theorem Inv.lst {pins : List (Addr × Obj)} {σ : St} {H : Hp} {s : Shared} {p : Addr} {xs : List V} (I : Inv X pins σ H s) (h : H p = some (.lst xs)) :
    ∃ (its : List Value) (n : Nat), Vals xs its ∧ s.heap.get? p = some { cls := .type "list", data := .seq its.toArray n } ∧ xs.length ≤ sizeLine := by
  obtain ⟨z, its, n, r, e⟩ := I.hok p _ h
  exact ⟨its, n, r, e, z⟩
/-- the list at p is written by an update of its object -/
theorem Inv.lstUpd {pins : List (Addr × Obj)} {σ : St} {H : Hp} {s : Shared} {p : Addr} {xs ys : List V} {its its' : List Value} {n n' : Nat} {f : Obj → Obj} (I : Inv X pins σ H s) (h : H p = some (.lst xs))
    (ho : s.heap.get? p = some { cls := .type "list", data := .seq its.toArray n }) (hf : f { cls := .type "list", data := .seq its.toArray n } = { cls := .type "list", data := .seq its'.toArray n' }) (r : Vals ys its') (hz : ys.length ≤ sizeLine) (t : Nat) :
    Inv X pins σ (upd H p (.lst ys)) { s with heap := s.heap.update p f, toks := t } := by
  have e : (s.heap.update p f).get? p = some { cls := .type "list", data := .seq its'.toArray n' } := by
    rw [Heap.get?_update_self f ho (by rw [hf] <;> rfl), hf]
  refine I.write (x := p) (e := p) (by rw [h]; trivial) (.inl rfl) (fun b u hb q => (Heap.get?_update_other _ _ (Ne.symm hb)).trans q) ⟨_, e⟩ ?_
  exact ⟨hz, its', n', r, e⟩
def rSetL : V → V → V → Hp → (Hp → Prop) → Prop := fun o i v H Q => ∃ p xs k j, o = .ref p ∧ i = .int k ∧ H p = some (.lst xs) ∧ ixN xs.length k = some j ∧ Q (upd H p (.lst (xs.set j v)))
theorem set_list : PSet X rSetL := by
  intro pins s σ H o i v ov iv u Q I ro ri rv h
  obtain ⟨p, xs, k, j, rfl, rfl, hp, hj, q⟩ := h
  cases ro
  obtain ⟨t, rfl⟩ := ri
  obtain ⟨its, n, r, ho, hz⟩ := I.lst hp
  obtain ⟨h1, h2, h3, h4⟩ := ixN_seq hj
  have hl := r.length
  have hn := line63
  have I' : Inv X pins σ (upd H p (.lst (xs.set j v))) { s with heap := s.heap.update p (Obj.mapSeq (·.setIfInBounds j u)) } :=
    I.lstUpd hp ho (mapSeq_set its n j u) (r.set rv j) (by rw [List.length_set]; exact hz) s.toks
  by_cases h0 : 0 ≤ k
  · have hk : k.toNat = j := by
      rw [seqIndex_of h0 h4] at h1
      exact Option.some.inj h1
    exact PySem.W.ki_setAt ho h0 (by omega) (by rw [List.size_toArray, ← hl]; exact h4) (by rw [hk]; exact ⟨_, I', q⟩)
  · have hk : (k + (its.toArray.size : Int)).toNat = j := by
      rw [seqIndex_neg (by omega) h3] at h1
      rw [List.size_toArray, ← hl]
      exact Option.some.inj h1
    exact PySem.W.ki_setBack ho (by omega) (by rw [List.size_toArray, ← hl]; exact h3) (by omega) (by rw [hk]; exact ⟨_, I', q⟩)

theorem slice_bounds (lo hi : Option Int) (n : Nat) : (sliceBounds lo hi none n).1 = ((HT.sIx n 0 lo : Nat) : Int) ∧ (sliceBounds lo hi none n).2.1 = ((HT.sIx n n hi : Nat) : Int) ∧ (sliceBounds lo hi none n).2.2 = 1 := by
  refine ⟨?_, ?_, rfl⟩
  · cases lo with
    | none => simp [sliceBounds, HT.sIx]
    | some i =>
      simp only [sliceBounds, HT.sIx, Option.getD_none, show (1 : Int) > 0 by decide, if_true]
      by_cases h : i < 0
      · simp only [h, if_true] <;> omega
      · simp only [h, if_false] <;> omega
  · cases hi with
    | none => simp [sliceBounds, HT.sIx]
    | some i =>
      simp only [sliceBounds, HT.sIx, Option.getD_none, show (1 : Int) > 0 by decide, if_true]
      by_cases h : i < 0
      · simp only [h, if_true] <;> omega
      · simp only [h, if_false] <;> omega
theorem slicePick_cut (its : List Value) (lo hi : Option Int) : slicePick its.toArray lo hi none = ((its.drop (HT.sIx its.length 0 lo)).take (HT.sIx its.length its.length hi - HT.sIx its.length 0 lo)).toArray := by
  obtain ⟨h1, h2, h3⟩ := slice_bounds lo hi its.toArray.size
  unfold slicePick
  rw [h1, h2, h3]
  simp only [sliceRange_one, pick_run, List.size_toArray] <;> rfl
/-- xs[lo:hi] of a list: a new list -/
def rSlL (K : PySem.W.Frag) : V → Option Int → Option Int → Hp → VK → Prop := fun x lo hi H Q => ∃ a xs, x = .ref a ∧ SqL K H a xs ∧ ∀ p, H p = none → Q (.ref p) (upd H p (.lst (cutV xs lo hi)))
theorem sl_list : SlR X (rSlL X.K) := by
  intro pins s σ H x v vl vu lo hi sl Q I rx hs pl pu h
  obtain ⟨a, xs, rfl, hx, q⟩ := h
  cases rx
  obtain ⟨its, r, ht, hz⟩ := I.list hx
  have hlen := r.length
  refine ⟨"list", _, slot_list_getitem.lookup, ht.isList.typeIs, ?_⟩
  refine wpAny_getItem_list_slice ht.isList hs pl pu .none (by simp) ?_ (by rw [List.size_toArray] <;> omega)
  rw [slicePick_cut, ← hlen]
  refine ⟨.ref s.heap.objs.size, _, I.laid (t' := s.toks) (o := .lst (cutV xs lo hi)) (fun b ob q => Heap.get?_push_of_some _ q) (Nat.le_refl _) ?_, rfl, q _ (I.hok.fresh (Nat.le_refl _))⟩
  exact ⟨Nat.le_trans (cutV_length xs lo hi) hz, _, 0, (r.drop (HT.sIx xs.length 0 lo)).take (HT.sIx xs.length xs.length hi - HT.sIx xs.length 0 lo), Heap.get?_push_size _ rfl⟩

def flatV : V → Bool
  | .non => true
  | .bl _ => true
  | .int _ => true
  | .str _ => true
  | _ => false
/-- == of flat values -/
def eqV : V → V → Bool
  | .non, .non => true
  | .bl a, .bl b => a == b
  | .bl a, .int b => (if a then 1 else 0) == b
  | .int a, .bl b => a == (if b then 1 else 0)
  | .int a, .int b => a == b
  | .str a, .str b => a == b
  | _, _ => false
theorem eqAt_V {A : Around} {s : Shared} {y x : V} {u v : Value} (ry : RelV y u) (rx : RelV x v) (fy : flatV y = true) (fx : flatV x = true) : SeqAt.EqAt A s u v (eqV y x) := by
  cases y with
  | non =>
    cases ry
    cases x with
    | non => cases rx; exact SeqAt.EqAt.same _
    | bl b => cases rx; exact SeqAt.EqAt.none_bool b
    | int b => obtain ⟨t, rfl⟩ := rx; exact SeqAt.EqAt.none_int b t
    | str b => obtain ⟨t, rfl⟩ := rx; exact SeqAt.EqAt.none_str b t
    | _ => exact absurd (show false = true from fx) Bool.false_ne_true
  | bl a =>
    cases ry
    cases x with
    | non => cases rx; exact SeqAt.EqAt.bool_none a
    | bl b => cases rx; exact SeqAt.EqAt.bool_bool a b
    | int b => obtain ⟨t, rfl⟩ := rx; exact SeqAt.EqAt.bool_int a b t
    | str b => obtain ⟨t, rfl⟩ := rx; exact SeqAt.EqAt.bool_str a b t
    | _ => exact absurd (show false = true from fx) Bool.false_ne_true
  | int a =>
    obtain ⟨t', rfl⟩ := ry
    cases x with
    | non => cases rx; exact SeqAt.EqAt.int_none a t'
    | bl b => cases rx; exact SeqAt.EqAt.int_bool a t' b
    | int b => obtain ⟨t, rfl⟩ := rx; exact SeqAt.EqAt.int_int a t' b t
    | str b => obtain ⟨t, rfl⟩ := rx; exact SeqAt.EqAt.int_str a t' b t
    | _ => exact absurd (show false = true from fx) Bool.false_ne_true
  | str a =>
    obtain ⟨t', rfl⟩ := ry
    cases x with
    | non => cases rx; exact SeqAt.EqAt.str_none a t'
    | bl b => cases rx; exact SeqAt.EqAt.str_bool a t' b
    | int b => obtain ⟨t, rfl⟩ := rx; exact SeqAt.EqAt.str_int a t' b t
    | str b => obtain ⟨t, rfl⟩ := rx; exact SeqAt.EqAt.str_str a t' b t
    | _ => exact absurd (show false = true from fx) Bool.false_ne_true
  | _ => exact absurd (show false = true from fy) Bool.false_ne_true
theorem call_len_seq : CallR X (.builtin "len") (fun xs H Q => ∃ p ys, xs = [.ref p] ∧ (SqL X.K H p ys ∨ SqT X.K H p ys) ∧ Q (.int ys.length) H) := by
  intro pins s σ H xs us Q I r h
  obtain ⟨p, ys, rfl, hq, q⟩ := h
  obtain ⟨u, rfl, rx⟩ := vals1 r
  cases rx
  have hn := line63
  rcases hq with hq | hq
  · obtain ⟨its, r', pl, hz⟩ := I.list hq
    have hlen := r'.length
    exact Calls.call_len_list pl.isList (by simp only [List.size_toArray] <;> omega) ⟨.int ys.length, H, I.tok _, ⟨s.toks + 1, by rw [List.size_toArray, hlen]⟩, q⟩
  · obtain ⟨its, r', pl, hz⟩ := I.tuple hq
    have hlen := r'.length
    exact len_tuple pl (by simp only [List.size_toArray] <;> omega) ⟨.int ys.length, H, I.tok _, ⟨s.toks + 1, by rw [List.size_toArray, hlen]⟩, q⟩
theorem CallR.or {f : Value} {r r' : List V → Hp → VK → Prop} (h : CallR X f r) (h' : CallR X f r') : CallR X f (fun xs H Q => r xs H Q ∨ r' xs H Q) := by
  intro pins s σ H xs us Q I rs q
  rcases q with q | q
  · exact h pins s σ H xs us Q I rs q
  · exact h' pins s σ H xs us Q I rs q
theorem call_list_of : CallR X (.type "list") (fun xs H Q => ∃ p ys, xs = [.ref p] ∧ (SqL X.K H p ys ∨ SqT X.K H p ys) ∧ ∀ l, H l = none → Q (.ref l) (upd H l (.lst ys))) := by
  intro pins s σ H xs us Q I r h
  obtain ⟨p, ys, rfl, hq, q⟩ := h
  obtain ⟨u, rfl, rx⟩ := vals1 r
  cases rx
  have fin : ∀ (its : List Value), Vals ys its → ys.length ≤ sizeLine → ∀ (h' : Heap) (c' : Nat), (∀ b o', s.heap.get? b = some o' → h'.get? b = some o') →
      h'.get? s.heap.objs.size = some { cls := .type "list", dict := none, data := .seq its.toArray c', slots := #[] } → EP X pins σ Q (.ref s.heap.objs.size) { s with heap := h' } := fun its r' hz h' c' kp e =>
    ⟨.ref s.heap.objs.size, _, I.laid (t' := s.toks) kp (Nat.le_refl _) (show ObjOk X.prog X.w _ h' _ (.lst ys) from ⟨hz, its, c', r', e⟩), rfl, q _ (I.hok.fresh (Nat.le_refl _))⟩
  rcases hq with hq | hq
  · obtain ⟨its, r', pl, hz⟩ := I.list hq
    have hlen := r'.length
    obtain ⟨o, ho, hc, n, hd⟩ := pl.isList
    exact call_list_seq p (.inl rfl) ho hc hd (fun h' c' kp e => fin its r' hz h' c' kp e) (by simp only [List.size_toArray] <;> omega)
  · obtain ⟨its, r', pl, hz⟩ := I.tuple hq
    have hlen := r'.length
    obtain ⟨o, ho, hc, n, hd⟩ := pl
    exact call_list_seq p (.inr rfl) ho hc hd (fun h' c' kp e => fin its r' hz h' c' kp e) (by simp only [List.size_toArray] <;> omega)
/-- the value is of that builtin type -/
def tyV (K : PySem.W.Frag) (T : String) (x : V) (H : Hp) : Prop := match x with
  | .str _ => T = "str"
  | .int _ => T = "int"
  | .ref p => (T = "list" ∧ ∃ xs, SqL K H p xs) ∨ (T = "tuple" ∧ ∃ o, K.lookup p = some o ∧ o.cls = .type "tuple" ∧ o.dict = none) ∨
      (T = "dict" ∧ ((∃ kvs, H p = some (.dK kvs)) ∨ ∃ kvs, H p = some (.dT kvs))) ∨ (T = "set" ∧ ∃ S n, H p = some (.set S n))
  | _ => False
theorem tyV_is {pins : List (Addr × Obj)} {σ : St} {H : Hp} {s : Shared} {T : String} {x : V} {v : Value} (I : Inv X pins σ H s) (r : RelV x v) (ty : tyV X.K T x H) :
    s.TypeIs v T ∧ ∀ a, v = .ref a → ∃ ob, s.heap.get? a = some ob ∧ ob.dict = none := by
  cases x with
  | str z =>
    obtain ⟨t, rfl⟩ := r
    cases (show T = "str" from ty)
    exact ⟨typeIs_str s z t, fun _ e => nomatch e⟩
  | int i =>
    obtain ⟨t, rfl⟩ := r
    cases (show T = "int" from ty)
    exact ⟨typeIs_int s i t, fun _ e => nomatch e⟩
  | ref p =>
    cases r
    rcases ty with ⟨rfl, xs, hq⟩ | ⟨rfl, o, hk, hc, hd⟩ | ⟨rfl, hk⟩ | ⟨rfl, S, n, hk⟩
    · obtain ⟨its, _, pl, _⟩ := I.list hq
      refine ⟨pl.isList.typeIs, fun a e => ?_⟩
      cases e
      obtain ⟨o, n, e, c, hd, _⟩ := pl
      exact ⟨o, e, hd⟩
    · refine ⟨⟨o, I.kIn p o hk, hc⟩, fun a e => ?_⟩
      cases e
      exact ⟨o, I.kIn _ o hk, hd⟩
    · have z : ∃ o, s.heap.get? p = some o ∧ o.ExactDict := by
        rcases hk with ⟨kvs, hk⟩ | ⟨kvs, hk⟩
        · obtain ⟨_, _, _, _, o, _, _, e, ex, _⟩ := I.hok p _ hk
          exact ⟨o, e, ex⟩
        · obtain ⟨_, _, _, _, o, _, _, e, ex, _⟩ := I.hok p _ hk
          exact ⟨o, e, ex⟩
      obtain ⟨o, e, ex⟩ := z
      refine ⟨⟨o, e, ex.1⟩, fun a e2 => ?_⟩
      cases e2
      exact ⟨o, e, ex.2.1⟩
    · obtain ⟨o, _, _, _, e, ex, _⟩ := I.hok p _ hk
      refine ⟨⟨o, e, ex.1⟩, fun a e2 => ?_⟩
      cases e2
      exact ⟨o, e, ex.2.1⟩
  | _ => exact False.elim ty
def tBM (K : PySem.W.Frag) (T : String) (r : V → List V → Hp → VK → Prop) (to : TE) (t : TA) : TE := fun σ H Q => to σ H fun x H1 => tyV K T x H1 ∧ t σ H1 fun xs H2 => r x xs H2 Q
variable {o e : Expr} {es : List Expr} {to : TE} {t : TA} {name : Str} {apos cpos : Pos} {T id : String} {r : V → List V → Hp → VK → Prop}
theorem pe_bm (pa : PlainAttrs T) (slot : Slot T name id) (hty : typeOf (.builtin id) = pure (.type "method_descriptor")) (hm : MtR X id r) (ho : PE X o to) (ha : PA X (e :: es) t)
    (hbase : attributeBase o name X.env (eval o X.env) = eval o X.env := by rfl)
    (hfew : ((backTo cpos (starEach (e :: es) X.env)).all (fun x => !x.1) && (backToKw cpos (keywordEach [] X.env)).all (fun x => x.1.isSome)
      && decide ((e :: es).length + ([] : List Keyword).length + (if ([] : List Keyword).isEmpty then 0 else 1) < 30)) = true := by rfl)
    (hline : (apos.endLine == cpos.line) = true := by rfl) (hs : starEach (e :: es) X.env = (false, eval e X.env) :: starEach es X.env := by rfl) (hplain : (backTo cpos (starEach es X.env)).any (·.1) = false := by rfl) :
    PE X (.Call (.Attribute o name apos) (e :: es) [] cpos) (tBM X.K T r to t) := by
  intro pins s σ H Q I h
  refine wpAny_Call_method_late hbase hfew hline rfl (thn (ho pins s σ H _ I h) fun v s1 ⟨x, H1, I1, r1, ty, q1⟩ => ?_)
  obtain ⟨h1, h2⟩ := tyV_is I1 r1 ty
  refine ⟨T, id, pa, slot, hty, h1, h2, ?_⟩
  have hA := ha cpos pins s1 σ H1 _ I1 q1
  rw [hs] at hA ⊢
  refine Calls.callWith_builtin (by show (false || (backTo cpos (starEach es X.env)).any (·.1)) = false; rw [hplain] <;> rfl) (Calls.evalArgs_plain ?_)
  exact thn hA fun us s2 ⟨vs, H2, I2, r2, q2⟩ => hm pins s2 σ H2 x vs v us Q I2 r1 r2 q2
/- xs.append(e), list.index on a module's tuple .. are MtR facts of 06m -/
end
end L2

namespace L2
open PySem PySem.Spec PyProof.Rows

def MtM (X : Cx) (id : String) (r : V → List V → Hp → VK → Prop) : Prop :=
  ∀ (pins : List (Addr × Obj)) (s : Shared) (σ : St) (H : Hp) (x : V) (xs : List V) (v : Value) (us : List Value) (Q : VK), Inv X pins σ H s → RelV x v → Vals xs us → r x xs H Q →
    wpAny (model X.prog X.w) X.A (call (.builtin id) (v :: us)) (EP X pins σ Q) X.xe s

theorem Vals.one : ∀ {x : V} {us : List Value}, Vals [x] us → ∃ u, us = [u] ∧ RelV x u
  | _, _, .cons r .nil => ⟨_, rfl, r⟩
theorem Vals.two : ∀ {x y : V} {us : List Value}, Vals [x, y] us → ∃ u v, us = [u, v] ∧ RelV x u ∧ RelV y v
  | _, _, _, .cons r (.cons q .nil) => ⟨_, _, rfl, r, q⟩
theorem Vals.zero : ∀ {us : List Value}, Vals [] us → us = []
  | _, .nil => rfl
theorem Vals.dropLast {xs : List V} {us : List Value} (h : Vals xs us) : Vals xs.dropLast us.dropLast := by
  induction h with
  | nil => exact .nil
  | cons r t ih =>
    cases t with
    | nil => exact .nil
    | cons q t' => exact .cons r ih
theorem Vals.eraseIdx : ∀ {xs : List V} {us : List Value} (i : Nat), Vals xs us → Vals (xs.eraseIdx i) (us.eraseIdx i)
  | _, _, _, .nil => .nil
  | _, _, 0, .cons _ t => t
  | _, _, i + 1, .cons r t => .cons r (Vals.eraseIdx i t)
theorem Vals.reverse {xs : List V} {us : List Value} (h : Vals xs us) : Vals xs.reverse us.reverse := by
  induction h with
  | nil => exact .nil
  | cons r t ih => rw [List.reverse_cons, List.reverse_cons]; exact Vals.append ih (.cons r .nil)
section
variable {X : Cx} {pins : List (Addr × Obj)} {σ : St} {H : Hp} {s : Shared} {l b : Addr} {xs ys zs : List V}

theorem Inv.lset {its its' : List Value} {n : Nat} {f : Array Value → Array Value} {t' : Nat} (I : Inv X pins σ H s) (hH : H l = some (.lst xs))
    (e : s.heap.get? l = some { cls := .type "list", data := .seq its.toArray n }) (hf : f its.toArray = its'.toArray) (hv : Vals ys its') (hz : ys.length ≤ sizeLine) :
    Inv X pins σ (upd H l (.lst ys)) { s with heap := s.heap.update l (Obj.mapSeq f), toks := t' } := by
  have q := PySem.IsL.update e f
  rw [hf] at q
  refine I.write (x := l) (e := l) (by rw [hH]; exact trivial) (.inl rfl) (fun b' u hb hu => (Heap.get?_update_other s.heap (Obj.mapSeq f) (Ne.symm hb)).trans hu) ⟨_, q⟩ ?_
  exact ⟨hz, its', _, hv, q⟩
theorem Inv.lnew {its : List Value} {t' : Nat} (I : Inv X pins σ H s) (hv : Vals ys its) (hz : ys.length ≤ sizeLine) :
    Inv X pins σ (upd H s.heap.objs.size (.lst ys)) { s with heap := s.heap.push { cls := .type "list", data := .seq its.toArray }, toks := t' } :=
  I.laid (fun _ _ q => Heap.get?_push_of_some _ q) (Nat.le_refl _) ⟨hz, its, 0, hv, Heap.get?_push_size _ rfl⟩
theorem Inv.fresh (I : Inv X pins σ H s) : H s.heap.objs.size = none := I.hok.fresh (Nat.le_refl _)
theorem Inv.lstM (I : Inv X pins σ H s) (hH : H l = some (.lst xs)) : xs.length ≤ sizeLine ∧ ∃ (its : List Value) (n : Nat), Vals xs its ∧ xs.length = its.length ∧ s.heap.get? l = some { cls := .type "list", data := .seq its.toArray n } := by
  obtain ⟨z, its, n, r, e⟩ := I.hok l _ hH
  exact ⟨z, its, n, r, r.length, e⟩

end

section
variable {X : Cx}

def rAppend : V → List V → Hp → VK → Prop := fun x vs H Q => ∃ l xs y, x = .ref l ∧ vs = [y] ∧ H l = some (.lst xs) ∧ xs.length < sizeLine ∧ Q .non (upd H l (.lst (xs ++ [y])))
theorem mt_append : MtM X "list.append" rAppend := by
  intro pins s σ H x vs v us Q I rx rv h
  obtain ⟨l, xs, y, rfl, rfl, hH, hz, q⟩ := h
  cases rx
  obtain ⟨u, rfl, ru⟩ := rv.one
  obtain ⟨z, its, n, r, hl, e⟩ := I.lstM hH
  refine call_meets F.slot_list_append ⟨_, e, rfl⟩ F.entry_list_append (F.args_list_append_2 _ _) (PySem.list_append l its.toArray n u (by rw [List.size_toArray]; omega)) ⟨e, ?_⟩
  refine ⟨.non, _, I.lset (its' := its ++ [u]) hH e (by simp) (r.append (.cons ru .nil)) ?_, rfl, q⟩
  rw [List.length_append, List.length_singleton]
  omega

def rCat : R2 := fun x y H Q => ∃ l b xs zs, x = .ref l ∧ y = .ref b ∧ H l = some (.lst xs) ∧ H b = some (.lst zs) ∧ xs.length + zs.length ≤ sizeLine ∧ ∀ p, H p = none → Q (.ref p) (upd H p (.lst (xs ++ zs)))
theorem op_cat : OpR X (binaryOp .Add) rCat := by
  intro pins s σ H x y v u Q I rx ry h
  obtain ⟨l, b, xs, zs, rfl, rfl, hH, hB, hz, q⟩ := h
  cases rx
  cases ry
  obtain ⟨z, its, n, r, hl, e⟩ := I.lstM hH
  obtain ⟨z2, its2, n2, r2, hl2, e2⟩ := I.lstM hB
  refine PySem.P.add_list e e2 ?_ (by rw [List.size_toArray, List.size_toArray]; omega)
  have ea : its.toArray ++ its2.toArray = (its ++ its2).toArray := by simp
  rw [ea]
  exact ⟨.ref _, _, I.lnew (t' := s.toks) (r.append r2) (by rw [List.length_append]; omega), rfl, q _ I.fresh⟩
end

section
variable {prog : Program} {w : World} {A : Around} {E : Value → Shared → Prop} {s : Shared}
end

section
variable {X : Cx}
end
end L2

namespace Att
open PySem PySem.W PySem.Calls PyProof.Rows

theorem ints_of_wellAll {P : Params} {h : Heap} : ∀ (ns : List Int) (vs : List Value), WellAll P h vs (ns.map WData.int) → IntsAre vs ns := by
  intro ns
  induction ns with
  | nil =>
    intro vs w
    rw [List.map_nil] at w
    cases w
    exact .nil
  | cons n ns ih =>
    intro vs w
    rw [List.map_cons] at w
    cases w with
    | cons a b =>
      cases a
      exact .cons _ _ (ih _ b)

theorem script_of {l : OpenLaw} {n : Nat} (hn : l.most = some n) {P : Params} {h : Heap} {args : List WData} {vals : List Value}
    (hpre : l.row.toRowW.claim.pre args = true) (hwl : WellAll P h vals args) :
    ∃ a vs ns, vals = [Value.ref a] ∧ args = [WData.list (ns.map WData.int)] ∧ h.get? a = some { cls := .type "list", data := .seq vs.toArray } ∧ IntsAre vs ns ∧ ns.length ≤ n := by
  have hsh : WShape.hasAll [] args [.list .int] = true := (pre_splitW hpre).1
  have hc : l.pre.holds [] { args := args } = true := (pre_splitW hpre).2
  obtain ⟨d, r, rfl, h1, h2⟩ := hasAllW_cons hsh
  obtain rfl := hasAllW_nil h2
  obtain ⟨xs, rfl, h3⟩ := hasW_list h1
  obtain ⟨ns, rfl⟩ := items_int h3
  have hlen : ns.length ≤ n := by
    unfold OpenLaw.pre at hc
    have h4 : (WTm.not (.lt (.lit (.int (n : Int))) (.len (.arg 0)))).holds [] { args := [.list (ns.map .int)] } = true := by
      have h4 := (holds_andW hc).1
      rw [hn] at h4
      exact h4
    have h5 := condW_of h4 (w_not (w_lt w_lit (w_len_list (w_arg rfl))))
    rw [List.length_map] at h5
    refine Nat.le_of_not_lt fun q => ?_
    have q' : (n : Int) < ((ns.length : Nat) : Int) := by omega
    first
      | (rw [decide_eq_true q'] at h5; exact absurd h5 (by decide))
      | (simp at h5; omega)
  cases hwl with
  | cons w1 w2 =>
    cases w2
    cases w1 with
    | list ho hall => exact ⟨_, _, ns, rfl, rfl, ho, ints_of_wellAll ns _ hall, hlen⟩

theorem post_true (l : OpenLaw) (args : List WData) : l.row.toRowW.claim.post args (.bool true) args = true :=
  postW_of (r := l.row.toRowW) (X := (true == true))
    (show WShape.has [] (.bool true) .bool = true by first | rfl | decide | simp [WShape.has, WShape.arms, WShape.armsAll])
    (show (WTm.eq .res (.lit (.bool true))).value [] { args := args, res := some (.bool true), after := args } = some (.bool (true == true)) from w_eq_bool (w_res rfl) w_lit) rfl

/-- the same from a codeAny of the CALL (for a layer whose function contracts speak of calls) -/
theorem attach_call {l : OpenLaw} {n : Nat} {q : Program} {loose : List Str} {XP : (Str → Option Value) → Heap → Prop} {YP : World → Heap → Prop} {d : DefRec}
    (hn : l.most = some n) (hdf : d.params.defaults = [])
    (call : ∀ (w : World) (s₀ s₁ : Shared) (mg mb : Str → Option Value) (fa : Addr) (o : Obj) (pm cd doc : Value) (a : Addr) (vs : List Value) (ns : List Int),
      Ground q loose [] XP w s₀ mg mb s₁.heap → YP w s₁.heap →
      s₁.heap.get? fa = some o → o.data = .func (docDef d.name d.params d.body d.scope pm cd doc) → s₁.heap.CodeRec cd d.name → mg d.name = some (.ref fa) →
      s₁.heap.get? a = some { cls := .type "list", data := .seq vs.toArray } → IntsAre vs ns → ns.length ≤ n → s₁.gens = #[] →
      codeAny (model l.prog w) callerA (.call (.ref fa) ⟨[.ref a], []⟩) (fun r s' => r = .ok (.ret (.bool true)) ∧ OldK s₁.heap s'.heap ∧ s'.os = s₁.os ∧ AllBare s'.gens) s₁) :
    WalkO q loose XP YP l.row.toRowW d [] (fun f vs => PySem.call f vs) := by
  intro w s₀ s₁ mg mb G Y fa o pm cd doc dV kV ho hd hcd hD hmg hg args vals as hpre hlay hrd hwl hlo
  obtain rfl : dV = .none := Dflts.none hD hdf
  obtain rfl : kV = .none := Dflts.noKw hD
  obtain ⟨a, vs, ns, rfl, rfl, hobj, hints, hlen⟩ := script_of hn hpre hwl
  refine enter_call (codeAny_mono (call w s₀ s₁ mg mb fa o pm cd doc a vs ns G Y ho (fd_plain hd) hcd hmg hobj hints hlen hg) fun r s' hq => ?_)
  obtain ⟨rfl, h2, h3, h4⟩ := hq
  exact ⟨.inl ⟨.bool true, .bool true, [], rfl, fun _ => rfl, .bool true, post_true l _, fun _ => ⟨List.Pairwise.nil, fun _ hm => (nomatch hm)⟩⟩, h2, h3, h4⟩

section
variable {prog : Program} {w : World} {A : Around} {E : Value → Shared → Prop} {s : Shared} {K : Frag}

def ledger (h : Heap) (L d : Addr) : List (Addr × Obj) := (List.range h.objs.size).filterMap fun a => if a = L ∨ a = d then none else (h.get? a).map fun o => (a, o)
end
end Att

namespace L2
open PySem PySem.Spec PyProof.Rows

theorem vals_ints : ∀ {vs : List Value} {ns : List Int}, IntsAre vs ns → Vals (ns.map V.int) vs
  | _, _, .nil => .nil
  | _, _, .cons n t h => .cons ⟨t, rfl⟩ (vals_ints h)

/-- nothing is tracked but the script, known to the object (or it is an object of the module) -/
def Only (H : Hp) : Prop := ∀ b, H b = none ∨ ∃ o xs, H b = some (.frz o (.lst xs))

/-- THE HEAD: the law's promise, at the heap behind the top. F, the promise of the law's def, may use that base is part of the heap (so K.In base, base.Ns mainGlobals mg stand in Mod) -/
theorem law_call {P : Program} {w : World} {K : PySem.W.Frag} {mg mb : Str → Option Value} {CX : CXT} {k : Nat} {fa a : Addr} {fd : FuncData} {x : Str} {sp : Sp} {s₁ : Shared} {vs : List Value} {ns : List Int}
    (KX : K.In s₁.heap) (hns : s₁.heap.Ns mainGlobals mg) (hb : s₁.heap.Ns builtinsNs mb) (hbb : ∀ x : Str, x ≠ "__name__" → mb x = bootBuiltins x) (hlim : s₁.heap.NoLimit) (hg : s₁.gens = #[])
    (ha : s₁.heap.get? a = some { cls := .type "list", data := .seq vs.toArray }) (hi : IntsAre vs ns) (hl : ns.length ≤ sizeLine) (hr : Room k callerA)
    (F : ∀ base : Heap, K.In base → base.Ns mainGlobals mg → FnOk P w K mg base CX k fa fd [x] sp) (hbind : ∀ (s : Shared) (u : Value), BindsTo s fd ⟨[u], []⟩ [(x, u)])
    (hsp : ∀ H : Hp, Only H → SqL K H a (ns.map V.int) → sp [.ref a] H (fun v _ => v = .bl true) fun _ _ _ => False)
    (hCX : ∀ H e s', CX [] H s₁ (fun _ _ _ => False) e s' → False) :
    codeAny (model P w) callerA (.call (.ref fa) ⟨[.ref a], []⟩) (fun r s' => r = .ok (.ret (.bool true)) ∧ OldK s₁.heap s'.heap ∧ s'.os = s₁.os ∧ AllBare s'.gens) s₁ := by
  have rv := vals_ints hi
  have lenV := hi.length
  -- from an abstract heap in which nothing but the script may be tracked
  have core : ∀ H : Hp, Only H → SqL K H a (ns.map V.int) → HOk P w H s₁.heap → (∀ b, H b ≠ none → b = a) → (H a ≠ none → K.lookup a = none) →
      codeAny (model P w) callerA (.call (.ref fa) ⟨[.ref a], []⟩) (fun r s' => r = .ok (.ret (.bool true)) ∧ OldK s₁.heap s'.heap ∧ s'.os = s₁.os ∧ AllBare s'.gens) s₁ := by
    intro H hO hS hok hA hK
    have base_of : ∀ {b : Addr} {o : Obj}, s₁.heap.get? b = some o → H b = none → (hidT s₁.heap H).get? b = some o := fun e n => hidT_get e n
    have noA : ∀ {b : Addr} {o : Obj} {es : Array DictEntry} {ep : Nat}, s₁.heap.get? b = some o → o.data = .dict es ep → H b = none := fun {b o es ep} e d => by
      cases q : H b with
      | none => rfl
      | some u =>
        have e' : b = a := hA b (by rw [q]; simp)
        subst e'
        rw [ha] at e; cases e
        have d' : Data.seq vs.toArray _ = Data.dict es ep := d
        cases d'
    have nsK : ∀ {b : Addr} {m : Str → Option Value}, s₁.heap.Ns b m → (hidT s₁.heap H).Ns b m := fun {b m} ⟨o, es, ep, e, d, r⟩ => ⟨o, es, ep, base_of e (noA e d), d, r⟩
    have hKb : K.In (hidT s₁.heap H) := fun b o e => base_of (KX b o e) (by
      cases q : H b with
      | none => rfl
      | some u =>
        have e' : b = a := hA b (by rw [q]; simp)
        subst e'
        rw [hK (by rw [q]; simp)] at e; cases e)
    have hM : Mod K mg (hidT s₁.heap H) := ⟨hKb, nsK hns, ⟨mb, nsK hb, hbb⟩, let ⟨mc, h1, h2⟩ := hlim; ⟨mc, nsK h1, h2⟩⟩
    have e0 : Env0 P w K mg (hidT s₁.heap H) callerA [] s₁ H := ⟨rfl, hM, fun b o e => of_hidT e, Nat.le_of_eq (hidT_size _ _), trivial, fun b hb => absurd (show b ∈ ([] : List Addr) from hb) (by simp), hok, .of_eq hg⟩
    refine codeAny_mono ((F _ hKb (nsK hns)).run callerA [] s₁ H ⟨[.ref a], []⟩ [.ref a] [.ref a] _ _ hr e0 (hbind s₁ (.ref a)) (.cons rfl .nil) (hsp H hO hS)) fun r s' h => ?_
    cases r with
    | error e => exact (hCX H e s' h).elim
    | ok fl =>
      cases fl with
      | next => exact False.elim h
      | brk => exact False.elim h
      | cont => exact False.elim h
      | ret u =>
        obtain ⟨v, H', os, bare, un, hok', r', q⟩ := h
        have q' : v = .bl true := q
        subst q'
        obtain rfl : u = Value.bool true := r'
        refine ⟨rfl, OldK.of_keep fun b o e => ?_, os, bare⟩
        cases q : H b with
        | none => exact un.keep b o e q (by intro z; exact absurd (show b ∈ ([] : List Addr) from z) (by simp)) (by simp)
        | some u =>
          rcases hO b with z | ⟨ob, xs, z⟩
          · rw [q] at z; cases z
          · have z2 := un.frzs b ob _ z
            obtain ⟨e1, _⟩ := hok b _ z
            obtain ⟨e2, _⟩ := hok' b _ z2
            rw [e] at e1; cases e1
            exact e2
  cases hk : K.lookup a with
  | some o =>
    -- the script is one of the module's own objects
    have e := KX a o hk
    rw [ha] at e
    cases e
    refine core (fun _ => none) (fun _ => .inl rfl) (.inr ⟨_, vs.toArray, _, hk, rfl, rfl, rfl, by rw [List.size_toArray, lenV]; exact hl, by simpa using rv⟩) (fun b u z => by have z' : (none : Option HO) = some u := z; cases z') (fun b z => absurd rfl z) fun z => absurd rfl z
  | none =>
    refine core (fun b => if b = a then some (.frz { cls := .type "list", data := .seq vs.toArray } (.lst (ns.map V.int))) else none) (fun b => ?_) (.inl (.inr ⟨{ cls := .type "list", data := .seq vs.toArray }, if_pos rfl⟩)) (fun b u z => ?_) (fun b z => ?_) fun _ => hk
    · by_cases hb : b = a
      · exact .inr ⟨_, _, if_pos hb⟩
      · exact .inl (if_neg hb)
    · by_cases hb : b = a
      · have z' := (if_pos hb).symm.trans z
        cases z'
        subst hb
        exact ⟨ha, by rw [List.length_map]; exact hl, vs, _, rv, ha⟩
      · have z' := (if_neg hb).symm.trans z
        cases z'
    · by_cases hb : b = a
      · exact hb
      · exact absurd (if_neg hb) z
end L2

namespace L2
open PySem PySem.Spec PyProof.Rows

abbrev KOf {K : PySem.W.Frag} {h : Heap} (_ : K.In h) : PySem.W.Frag := K

/-- the goal that k_head leaves (case hc), from the law's promise. F gives the function object fd (K's own) once, then the promise over every base -/
theorem walk_of {l : PySem.W.OpenLaw} {n k : Nat} {q : Program} {loose : List Str} {XP : (Str → Option Value) → Heap → Prop} {YP : World → Heap → Prop} {d : DefRec} {K : Params → PySem.W.Frag} {CX : World → CXT} {sp : World → Sp} {x : Str}
    (hn : l.most = some n) (hn2 : n ≤ sizeLine) (hdf : d.params.defaults = []) (hr : Room k callerA)
    (hY : ∀ (w : World) (h : Heap), YP w h → (K w.params).In h)
    (F : ∀ (w : World) (mg : Str → Option Value) (fa : Addr) (h : Heap), (K w.params).In h → h.Ns mainGlobals mg → mg d.name = some (.ref fa) →
      ∃ fd : FuncData, (∀ (s : Shared) (u : Value), BindsTo s fd ⟨[u], []⟩ [(x, u)]) ∧
        ∀ base : Heap, (K w.params).In base → base.Ns mainGlobals mg → FnOk l.prog w (K w.params) mg base (CX w) k fa fd [x] (sp w))
    (hsp : ∀ (w : World) (H : Hp) (a : Addr) (ns : List Int), ns.length ≤ n → Only H → SqL (K w.params) H a (ns.map V.int) → sp w [.ref a] H (fun v _ => v = .bl true) fun _ _ _ => False)
    (hCX : ∀ (w : World) (H : Hp) (s : Shared) (e : Value) (s' : Shared), CX w [] H s (fun _ _ _ => False) e s' → False) :
    PySem.W.WalkO q loose XP YP l.row.toRowW d [] (fun f vs => PySem.call f vs) := by
  refine Att.attach_call hn hdf fun w s₀ s₁ mg mb fa o pm cd doc a vs ns G Y ho hd hcd hmg hobj hints hlen hg => ?_
  have KX := hY w _ Y
  obtain ⟨fd, hb, hF⟩ := F w mg fa _ KX G.T.g hmg
  exact law_call KX G.T.g G.T.b G.T.builtins G.T.nolimit hg hobj hints (Nat.le_trans hlen hn2) hr hF hb (fun H hO hS => hsp w H a ns hlen hO hS) fun H e s' => hCX w H s₁ e s'
end L2

/- THE LAST THEOREM (shape; LID, My.* are yours):
   My.Adr: a structure of the addresses that your layer names (classes, functions); My.Txt K t: a structure (Prop) of the equations over K;
   My.txt_mk : {K} {implicit addresses ..} (e1 : nsIn K mainGlobals "law" = some (some (.ref f))) (e2 : K.lookup f = some ⟨oc, od, .func (fnOf "law" "law" params body scope dV kV doc pm an cdv ct), sl⟩) (e3 : codeIn K cdv "law" = true) .. : ∃ t, My.Txt K t

set_option maxRecDepth 100000 in
set_option maxHeartbeats 0 in
theorem PySem.Challenge.cw_LID_holds : PySem.Challenge.rw_LID.Holds := by
  w_on; o_law; k_head; (case hw => w_witness2)
  k_fill
  refine L2.walk_of (l := PySem.Challenge.rw_LID) (n := 63) (k := 40) (x := "script") (CX := fun w => ..) (sp := fun _ => My.sp_law) rfl (by decide) rfl ⟨rfl, by decide, by decide⟩ (fun w h Y => PySem.W.kIn_of Y) ?F ?S ?C
  case F =>
    intro w mg fa h KX G hmg
    have T : ∃ t, My.Txt (L2.KOf KX) t := by
      dsimp only [L2.KOf]                          -- K must stand as «<heap const> w.params» for k_is
      refine' My.txt_mk ?e1 ?e2 ?e3 ..
      (case e1 => PySem.W.k_is)                    -- in the order: a name -> its address -> its object -> its parts
      (case e2 => PySem.W.k_is)
      ..
    obtain ⟨t, T⟩ := T
    have e0 := hmg.symm.trans (PySem.W.mg_of KX G T.law)
    cases e0                                       -- fa is the law's own address
    exact ⟨_, fun s u => .of_eq rfl, fun base kb nb => My.law_fn T kb nb⟩     -- if «.of_eq rfl» comes too early: refine' ⟨_, ?b, fun base kb nb => My.law_fn T kb nb⟩; exact fun s u => .of_eq rfl
  case S => exact fun w H a ns hl hO hS => ..
  case C => exact ..
(the tactic k_is has no namespace: write k_is) -/

namespace L2
open PySem PySem.Spec PyProof.Rows

def defArgs (s : Stmt) : Arguments := match s with
  | .FunctionDef _ a _ _ _ _ _ _ _ _ => a
  | _ => { posonlyargs := [], args := [], vararg := none, kwonlyargs := [], kw_defaults := [], kwarg := none, defaults := [] }
def defBody (s : Stmt) : List Stmt := match s with
  | .FunctionDef _ _ b _ _ _ _ _ _ _ => b
  | _ => []
def defScope (s : Stmt) : Scope := match s with
  | .FunctionDef _ _ _ _ _ _ sc _ _ _ => sc
  | _ => { kind := .function, names := [], isGenerator := false, isCoroutine := false }

abbrev CX0 : CXT := fun _ _ _ _ _ _ => False
abbrev E0 : XK := fun _ _ _ => False
theorem pass0 {X : Cx} : Passes CX0 X E0 := fun _ _ _ _ _ _ _ h => h.elim

structure Fun (K : PySem.W.Frag) (x qual : Str) (st : Stmt) (f : Addr) (fd : FuncData) : Prop where
  ex : ∃ (oc : Value) (od : Option Addr) (kV doc pm : Value) (an : Option Addr) (cdv ct : Value) (osl : Array (Option Value)),
    fd = PySem.W.fnOf x qual (defArgs st) (defBody st) (defScope st) .none kV doc pm an cdv ct ∧ K.lookup f = some ⟨oc, od, .func fd, osl⟩ ∧ PySem.W.codeIn K cdv qual = true
  kp : PySem.W.keepIn K (.ref f) = true
section
variable {P : Program} {w : World} {K : PySem.W.Frag} {mg : Str → Option Value} {base : Heap}
/-- THE RULE for a def: its body as a term of rules, and the reading of that term -/
theorem Fun.ok {x qual : Str} {st : Stmt} {f : Addr} {fd : FuncData} {N ps : List Str} {k : Nat} {sp : Sp} (F : Fun K x qual st f fd) (S : FnScope N ps (defScope st)) (len : ∀ vs H Q E, sp vs H Q E → vs.length = ps.length)
    (hbody : ∀ (cdv : Value) (A : Around) (outer : List Env) (s : Shared) (H : Hp) (vs : List V) (Q : VK) (E : XK), Room k (A.deeper (envOfC qual (defScope st) s.heap.objs.size f cdv)) → sp vs H Q E →
      ∃ t, PSs (cxOf CX0 P w K mg base N qual (defScope st) f cdv A outer s H E).nox (defBody st) t ∧ t { nx := fun _ H' => Q .non H', rt := Q } (start N vs) H) : FnOk P w K mg base CX0 (k + 1) f fd ps sp := by
  obtain ⟨oc, od, kV, doc, pm, an, cdv, ct, osl, rfl, lk, hcd⟩ := F.ex
  refine fn_of lk hcd S len fun A outer s H vs Q E hr hsp => ?_
  obtain ⟨t, h, q⟩ := hbody cdv A outer s H vs Q E hr hsp
  exact ⟨t, h.nox, q⟩
/-- how its arguments bind (no defaults): h is «fun _ _ _ _ _ _ us hl => match us, hl with | [_, _], _ => rfl», one _ a parameter -/
theorem Fun.binds {x qual : Str} {st : Stmt} {f : Addr} {fd : FuncData} {ps : List Str} (F : Fun K x qual st f fd)
    (h : ∀ (kV doc pm : Value) (an : Option Addr) (cdv ct : Value) (us : List Value), us.length = ps.length → bindArgs (PySem.W.fnOf x qual (defArgs st) (defBody st) (defScope st) .none kV doc pm an cdv ct) ⟨us, []⟩ = pure (ps.zip us)) : Binds K fd ps [] := by
  obtain ⟨oc, od, kV, doc, pm, an, cdv, ct, osl, rfl, lk, hcd⟩ := F.ex
  exact .all (h kV doc pm an cdv ct)
theorem fun_mk {x qual : Str} {st : Stmt} {f : Addr} {oc : Value} {od an : Option Addr} {osl : Array (Option Value)} {kV doc pm cdv ct : Value} (l : K.lookup f = some ⟨oc, od, .func (PySem.W.fnOf x qual (defArgs st) (defBody st) (defScope st) .none kV doc pm an cdv ct), osl⟩)
    (c : PySem.W.codeIn K cdv qual = true) (k : PySem.W.keepIn K (.ref f) = true) : Fun K x qual st f (PySem.W.fnOf x qual (defArgs st) (defBody st) (defScope st) .none kV doc pm an cdv ct) := ⟨⟨oc, od, kV, doc, pm, an, cdv, ct, osl, rfl, l, c⟩, k⟩
end
theorem small1000 {n : Nat} (h : n ≤ 1000) : n < sizeLine := Nat.lt_of_le_of_lt h (by decide)

section
variable {X : Cx}
theorem pv (i : Nat) {x : Str} {pos : Pos} (hN : X.N[i]? = some x := by rfl) (hv : Vis X.env.scope x := by first | exact Or.inl rfl | exact Or.inr (Or.inl rfl) | exact Or.inr (Or.inr rfl)) (hd : (x == ("__debug__" : Str)) = false := by decide)
    (hcd : (x == ("__classdict__" : Str)) = false := by decide) : PE X (.Name x pos) (tVar i) := pe_var hN hv hd hcd
end

theorem iteF {A B : Prop} (h : B) : if false = true then A else B := by
  rw [if_neg Bool.false_ne_true]
  exact h
theorem iteT {A B : Prop} (h : A) : if true = true then A else B := by
  rw [if_pos rfl]
  exact h
theorem iteNS {c A B : Prop} [Decidable c] (hc : c) (h : B) : if (!decide c) = true then A else B := by
  rw [decide_eq_true hc]
  exact iteF h

/-- all that was tracked is as it was -/
def Same (H H' : Hp) : Prop := ∀ b o, H b = some o → H' b = some o
theorem Same.refl (H : Hp) : Same H H := fun _ _ h => h
theorem Same.trans {H H1 H2 : Hp} (a : Same H H1) (b : Same H1 H2) : Same H H2 := fun c o h => b c o (a c o h)
theorem Same.free {H H' : Hp} (e : Same H H') {l : Addr} (h : H' l = Option.none) : H l = Option.none := by
  cases q : H l with
  | none => rfl
  | some o =>
    rw [e l o q] at h
    cases h
theorem Same.seq {K : PySem.W.Frag} {H H' : Hp} {a : Addr} {xs : List V} (e : Same H H') (h : SqL K H a xs) : SqL K H' a xs := by
  rcases h with (h | ⟨o, h⟩) | h
  · exact .inl (.inl (e _ _ h))
  · exact .inl (.inr ⟨o, e _ _ h⟩)
  · exact .inr h

end L2

set_option maxHeartbeats 4000000
namespace LX
open PySem PySem.Spec PyProof.Rows L2

def clsOf (names : List (Str × NameKind)) (env : Env) (cs : List (Str × Addr)) : List (Str × Addr) :=
  names.foldl (fun cs x => if (x.2 == NameKind.free) = true then (match env.cells.lookup x.1 with | some c => (x.1, c) :: cs | none => cs) else cs) cs

theorem forIn_fold {α β : Type} {f : α → β → Sem (ForInStep β)} {g : β → α → β} : ∀ {l : List α} (b : β), (∀ x ∈ l, ∀ c, f x c = pure (.yield (g c x))) → forIn l b f = pure (l.foldl g b)
  | [], b, _ => rfl
  | x :: l, b, h => by
    rw [List.forIn_cons, h x List.mem_cons_self, pure_bind]
    exact forIn_fold (g b x) fun y hy => h y (List.mem_cons_of_mem _ hy)

theorem closure_eq {scope : Scope} {env : Env} (h : ∀ x ∈ scope.names, x.2 = .free → ∃ c, env.cells.lookup x.1 = some c) : closureFor scope env = pure (clsOf scope.names env []) := by
  simp only [closureFor]
  rw [forIn_fold (g := fun cs x => if (x.2 == NameKind.free) = true then (match env.cells.lookup x.1 with | some c => (x.1, c) :: cs | none => cs) else cs) [] (fun x hx c => by
    obtain ⟨n, k⟩ := x
    by_cases e : (k == NameKind.free) = true
    · have ek : k = .free := by simpa using e
      obtain ⟨a, ha⟩ := h (n, k) hx ek
      have ha' : env.cells.lookup n = some a := ha
      simp only [e, if_true, cellOf, ha', pure_bind]
    · simp only [e, if_false, Bool.false_eq_true])]
  first | rfl | (rw [pure_bind]; rfl)

theorem cls_mem {env : Env} : ∀ (names : List (Str × NameKind)) (cs : List (Str × Addr)), (∀ p ∈ cs, env.cells.lookup p.1 = some p.2) → ∀ p ∈ clsOf names env cs, env.cells.lookup p.1 = some p.2
  | [], _, h => h
  | (n, k) :: r, cs, h => by
    show ∀ p ∈ clsOf r env (if (k == NameKind.free) = true then (match env.cells.lookup n with | some c => (n, c) :: cs | none => cs) else cs), _
    refine cls_mem r _ ?_
    split
    · cases e : env.cells.lookup n with
      | none => exact h
      | some c =>
        intro p hp
        rcases List.mem_cons.mp hp with rfl | hp
        · exact e
        · exact h p hp
    · exact h
theorem cls_keep {env : Env} : ∀ (names : List (Str × NameKind)) (cs : List (Str × Addr)) (p : Str × Addr), p ∈ cs → p ∈ clsOf names env cs
  | [], _, _, h => h
  | (n, k) :: r, cs, p, h => by
    show p ∈ clsOf r env (if (k == NameKind.free) = true then (match env.cells.lookup n with | some c => (n, c) :: cs | none => cs) else cs)
    refine cls_keep r _ p ?_
    split
    · cases e : env.cells.lookup n with
      | none => exact h
      | some c => exact List.mem_cons_of_mem _ h
    · exact h
theorem cls_has {env : Env} {y : Str} {c : Addr} (hc : env.cells.lookup y = some c) : ∀ (names : List (Str × NameKind)) (cs : List (Str × Addr)), (y, NameKind.free) ∈ names → (y, c) ∈ clsOf names env cs
  | [], _, h => by cases h
  | (n, k) :: r, cs, h => by
    show (y, c) ∈ clsOf r env (if (k == NameKind.free) = true then (match env.cells.lookup n with | some c => (n, c) :: cs | none => cs) else cs)
    rcases List.mem_cons.mp h with e | h
    · cases e
      refine cls_keep r _ _ ?_
      rw [if_pos (by rfl), hc]
      exact List.mem_cons_self
    · exact cls_has hc r _ h
theorem lookup_of_mem {l : List (Str × Addr)} {y : Str} {c : Addr} : (y, c) ∈ l → ∃ c', l.lookup y = some c' := by
  induction l with
  | nil => intro h; cases h
  | cons p r ih =>
    intro h
    obtain ⟨n, d⟩ := p
    rw [List.lookup_cons]
    by_cases e : (y == n) = true
    · rw [e]; exact ⟨d, rfl⟩
    · have e' : (y == n) = false := by simpa using e
      rw [e']
      rcases List.mem_cons.mp h with q | q
      · cases q
        rw [beq_self_eq_true] at e'
        cases e'
      · exact ih q
theorem cls_lookup {env : Env} {names : List (Str × NameKind)} {y : Str} {c : Addr} (h : (clsOf names env []).lookup y = some c) : env.cells.lookup y = some c :=
  cls_mem names [] (fun _ z => by cases z) (y, c) (PySem.mem_of_lookup h)
theorem cls_found {env : Env} {names : List (Str × NameKind)} {y : Str} {c : Addr} (hc : env.cells.lookup y = some c) (hy : (y, NameKind.free) ∈ names) : (clsOf names env []).lookup y = some c := by
  obtain ⟨c', e⟩ := lookup_of_mem (cls_has hc names [] hy)
  have := cls_lookup e
  rw [hc] at this
  rw [e, this]

theorem relabel_free {scope : Scope} {env : Env} {y : Str} (hcell : ∀ z ∈ scope.names, z.2 ≠ .cell) (h : (relabel scope env).names.lookup y = some .cell ∨ (relabel scope env).names.lookup y = some .free) : (y, NameKind.free) ∈ scope.names := by
  have key : ∀ k : NameKind, (k = .cell ∨ k = .free) → (relabel scope env).names.lookup y = some k → (y, NameKind.free) ∈ scope.names := by
    intro k hk e
    have m := PySem.mem_of_lookup e
    unfold relabel at m
    obtain ⟨⟨n, k'⟩, hm, q⟩ := List.mem_map.mp m
    dsimp only at q
    by_cases c : (k' == NameKind.free && env.scope.kind == .function && env.kindOf n == some .cell) = true
    · have hf : k' = .free := by
        rw [Bool.and_eq_true, Bool.and_eq_true] at c
        simpa using c.1.1
      rw [if_pos c] at q
      cases q
      subst hf
      exact hm
    · rw [if_neg c] at q
      cases q
      rcases hk with rfl | rfl
      · exact absurd rfl (hcell _ hm)
      · exact hm
  rcases h with h | h
  · exact key _ (.inl rfl) h
  · exact key _ (.inr rfl) h

/-- a captured name is a cell of the block -/
theorem relabel_cap {env : Env} (hk : env.scope.kind = .function) : ∀ {names : List (Str × NameKind)} {y : Str}, names.lookup y = some .free → env.kindOf y = some .cell →
    (names.map fun (n, k) => if (k == NameKind.free && env.scope.kind == .function && env.kindOf n == some .cell) then (n, NameKind.cell) else (n, k)).lookup y = some .cell
  | [], _, h, _ => by simp at h
  | (n, k) :: r, y, h, hy => by
    have ih := @relabel_cap env hk r y
    show List.lookup y ((if (k == NameKind.free && env.scope.kind == .function && env.kindOf n == some .cell) = true then (n, NameKind.cell) else (n, k)) :: _) = _
    cases hx : y == n with
    | true =>
      simp only [List.lookup_cons, hx] at h
      cases h
      have e : y = n := by simpa using hx
      subst e
      rw [if_pos (by rw [hk, hy]; rfl)]
      simp [List.lookup_cons]
    | false =>
      simp only [List.lookup_cons, hx] at h
      by_cases hc : (k == NameKind.free && env.scope.kind == .function && env.kindOf n == some .cell) = true
      · rw [if_pos hc]; simp only [List.lookup_cons, hx]; exact ih h hy
      · rw [if_neg hc]; simp only [List.lookup_cons, hx]; exact ih h hy

/-- the context of a comprehension's block; no exception leaves it -/
def cxC (X : Cx) (N' : List Str) (scope : Scope) (cl : List (Str × Addr)) (C : Addr) (s₀ : Shared) (H₀ : Hp) (ex : List Addr) (pn : List (Addr × Obj)) : Cx where
  prog := X.prog
  w := X.w
  K := X.K
  mg := X.mg
  base := X.base
  A := X.A
  N := N'
  s₀ := s₀
  H₀ := H₀
  env := compEnvC scope cl C X.env
  outer := X.stack
  stack := X.stack
  ex := ex
  fn := fun _ => false
  calm := X.calm
  pn := pn
  xe := fun _ _ => False

section
variable {prog : Program} {w : World} {A : Around} {R : Result → Shared → Prop} {s : Shared}
theorem comp_loop {elt target iter : Expr} {scope : Scope} {pos : Pos} {it acc : Value} {env : Env} (I : Nat → Shared → Prop)
    (turn : ∀ n s, I n s → wpAny (model prog w) A (pyNext it) (fun r s₁ => match r with
      | none => R (.ok .next) s₁
      | some v => wpAny (model prog w) A (letOwnedTupleGo target it v) (fun _ s₁' => wpAny (model prog w) A (assign target env v) (fun _ s₂ => wpAny (model prog w) A (eval elt env) (fun x s₃ =>
          wpAny (model prog w) A (call (.builtin "list.append") [acc, x]) (fun _ s₄ => ∃ m, m < n ∧ I m s₄) (fun _ _ => False) s₃) (fun _ _ => False) s₂) (fun _ _ => False) s₁') (fun _ _ => False) s₁) (fun _ _ => False) s)
    (n : Nat) (h : I n s) : codeAny (model prog w) A (.compLoop (.ListComp elt [⟨target, iter, [], 0⟩] scope pos) 0 it acc env) R s := by
  refine codeAny_loop rfl I (fun n s hI => ?_) n h
  show wpAny _ _ ((compTurn (.ListComp elt [⟨target, iter, [], 0⟩] scope pos) 0 it acc env).onRaise (fun x => do noteFrame x env; theTreesLotGoes x)) _ _ s
  refine wpAny_noted ?_
  rw [compTurn_list1]
  refine wpAny_bind (wpAny_standAt (wpAny_bind (wpAny_mono (turn n s hI) (fun r s₁ h₁ => ?_) fun _ _ h' => h'.elim)))
  cases r with
  | none => exact wpAny_pure h₁
  | some v =>
    exact wpAny_bind (wpAny_mono h₁ (fun _ s₁' h₁' => wpAny_bind (wpAny_mono h₁' (fun _ s₂ h₂ => wpAny_bind (wpAny_bind (wpAny_mono h₂ (fun x s₃ h₃ => wpAny_bind (wpAny_mono h₃
      (fun _ s₄ h₄ => wpAny_pure (wpAny_pure ⟨rfl, h₄⟩)) fun _ _ h' => h'.elim)) fun _ _ h' => h'.elim))) fun _ _ h' => h'.elim)) fun _ _ h' => h'.elim)
end

/-- what the block asks of the comprehension's own scope (fsc, N: the def's own scope and names) -/
structure CompSc (fsc : Scope) (N xs ys : List Str) (sel : List Nat) (scope : Scope) : Prop where
  fkind : fsc.kind = .function
  kind : scope.kind = .function
  nocell : ∀ z ∈ scope.names, z.2 ≠ .cell
  names : ∀ z ∈ scope.names, z.2 = .local → scope.names.lookup z.1 = some .local
  free : ∀ z ∈ scope.names, z.2 = .free → fsc.names.lookup z.1 = some .cell
  cap : ∀ y ∈ ys, scope.names.lookup y = some .free
  pick : ys.map some = sel.map fun j => N[j]?

def capOf (k : Nat) (sel : List Nat) (σ : L2.St) : L2.St := List.replicate k none ++ sel.map fun j => (σ[j]?).join

section
variable {X : Cx} {fsc : Scope} {N xs ys : List Str} {sel : List Nat} {scope : Scope} {pins : List (Addr × Obj)} {σ : L2.St} {H : Hp} {s : Shared}

theorem comp_inv {fp : List Addr} {h₁ : Heap} {C : Addr} {t' : Nat} {m : Str → Option Value} (S : CompSc fsc N xs ys sel scope) (eS : X.env.scope = fsc) (eN : X.N = N) (I : Inv X pins σ H s) (hf : ∀ b ∈ fp, FpOk X pins H b)
    (hl : ∀ b ∈ fp, ∃ o, s.heap.get? b = some o) (old : ∀ b o, s.heap.get? b = some o → h₁.get? b = some o) (hC : s.heap.objs.size ≤ C) (hn : h₁.Ns C m) :
    Inv (cxC X (xs ++ ys) scope (clsOf scope.names X.env []) C s H fp (X.pn ++ pins)) [] (capOf xs.length sel σ) H { s with heap := h₁, toks := t' } := by
  subst eS eN
  have fresh : H C = none := I.hok.fresh hC
  have neC : ∀ {b : Addr} {o : Obj}, s.heap.get? b = some o → b ≠ C := fun e => Nat.ne_of_lt (Nat.lt_of_lt_of_le (Heap.lt_size e) hC)
  have stkne : ∀ b, b ≠ X.env.locals → b ∉ X.fs → b ∉ frs X.stack := fun b h1 h2 z => (List.mem_cons.mp (I.stkSub b z)).elim h1 h2
  have cl_ok : ∀ y c, (clsOf scope.names X.env []).lookup y = some c → X.env.cells.lookup y = some c := fun y c e => cls_lookup e
  refine ⟨⟨I.ok.mod, S.kind, I.ok.glob, I.ok.blt, hC, fun y z c e1 e2 => I.ok.inj y z c (cl_ok y c e1) (cl_ok z c e2), fun y hy => ?_, fun y c hfn _ => ?_, I.ok.hd, I.ok.frames, .inl rfl, fun b hb => ?_, I.bs, Nat.le_trans I.ok.bsz I.sz, fun b o e hb => ?_, fun b hb => ?_, I.stack, I.stkFree⟩,
    rfl, I.bare, Un.kept old, ⟨m, hn, fun i y v h1 h2 h3 => ?_⟩, fun y c e => ?_, fresh, fun y c e => ?_, fun p hp => ?_, I.hok.kept old, ?_⟩
  · have hy' := relabel_free S.nocell hy
    obtain ⟨c, hc⟩ := I.ok.has y (.inl (S.free _ hy' rfl))
    exact ⟨c, cls_found hc hy'⟩
  · exact absurd (show false = true from hfn) Bool.false_ne_true
  · obtain ⟨f0, f1, f2, f3, f4, f5⟩ := hf b hb
    obtain ⟨o, ho⟩ := hl b hb
    exact ⟨neC ho, fun y c e => f4 y c (cl_ok y c e)⟩
  · obtain ⟨f0, f1, f2, f3, f4, f5⟩ := hf b hb
    rcases f3 with f3 | f3
    · exact I.ok.noex b o e f3
    · have h1 := Heap.lt_size e
      have h2 := I.ok.bsz
      exact absurd (Nat.lt_of_lt_of_le h1 (Nat.le_trans h2 f3)) (Nat.lt_irrefl _)
  · obtain ⟨f0, f1, f2, f3, f4, f5⟩ := hf b hb
    exact stkne b f1 f2
  · -- a captured name
    have h1' : (xs ++ ys)[i]? = some y := h1
    have h2' : (List.replicate xs.length none ++ sel.map fun j => (σ[j]?).join)[i]? = some (some v) := h2
    by_cases hi : i < xs.length
    · rw [List.getElem?_append_left (by rw [List.length_replicate]; exact hi), List.getElem?_replicate, if_pos hi] at h2'
      cases h2'
    · have hi' : xs.length ≤ i := Nat.le_of_not_lt hi
      rw [List.getElem?_append_right hi'] at h1'
      rw [List.getElem?_append_right (by rw [List.length_replicate]; exact hi'), List.length_replicate, List.getElem?_map] at h2'
      cases ek : sel[i - xs.length]? with
      | none => rw [ek] at h2'; cases h2'
      | some k =>
        rw [ek] at h2'
        have hj : (σ[k]?).join = some v := Option.some.inj h2'
        have hσ : σ[k]? = some (some v) := by
          cases e : σ[k]? with
          | none => rw [e] at hj; cases hj
          | some o =>
            rw [e] at hj
            have : o = some v := hj
            rw [this]
        have hN : X.N[k]? = some y := by
          have e : (ys.map some)[i - xs.length]? = (sel.map fun j => X.N[j]?)[i - xs.length]? := by rw [S.pick]
          rw [List.getElem?_map, List.getElem?_map, h1', ek] at e
          exact (Option.some.inj e).symm
        have hcap := S.cap y (List.mem_of_getElem? h1')
        have hcell : X.env.scope.names.lookup y = some .cell := S.free _ (PySem.mem_of_lookup hcap) rfl
        obtain ⟨m', hn', hl'⟩ := I.loc
        obtain ⟨u, r, l⟩ := hl' k y v hN hσ (.inr (.inl hcell))
        refine ⟨u, r, .inr ⟨.inl (relabel_cap S.fkind hcap hcell), ?_⟩⟩
        rcases l with ⟨hk, _⟩ | ⟨hk, c, e, z⟩
        · have hk' : X.env.scope.names.lookup y = some .local := hk
          rw [hcell] at hk'
          cases hk'
        · obtain ⟨o, ho, hd⟩ := z
          exact ⟨c, cls_found e (PySem.mem_of_lookup hcap), o, old _ _ ho, hd⟩
  · obtain ⟨v, o, ho, hd⟩ := I.cell y c (cl_ok y c e)
    exact ⟨v, o, old _ _ ho, hd⟩
  · exact I.freeC y c (cl_ok y c e)
  · have hp' : p ∈ X.pn ++ pins := by
      rcases List.mem_append.mp hp with z | z
      · exact z
      · cases z
    obtain ⟨e, n, ne, nf, d⟩ := I.pin p hp'
    exact ⟨old _ _ e, n, neC e, stkne _ ne nf, d⟩
  · show (capOf xs.length sel σ).length = (xs ++ ys).length
    have e := congrArg List.length S.pick
    rw [List.length_map, List.length_map] at e
    unfold capOf
    rw [List.length_append, List.length_append, List.length_replicate, List.length_map, e]

/-- the reading of a comprehension with one clause and no test -/
def compG (k : Nat) (sel : List Nat) (g : TG) (te : TE) (σ : L2.St) (Q : VK) (J : It) (H1 : Hp) : Prop := ∃ W : Nat → Nat → List V → L2.St → Hp → Prop, (∃ m, W 0 m [] (capOf k sel σ) H1) ∧
  ∀ i m ys σ H, W i m ys σ H → (J.stop i H ∧ ∀ p, H p = none → Q (.ref p) (upd H p (.lst ys))) ∨
    (J.go i H ∧ ys.length < sizeLine ∧ ∀ v H', J.yld i H v H' → g v σ H' fun σ2 H2 => te σ2 H2 fun y H3 => ∃ m', m' < m ∧ W (i + 1) m' (ys ++ [y]) σ2 H3)
def tComp (k : Nat) (sel : List Nat) (wi : TI) (g : TG) (te : TE) : TE := fun σ H Q => wi σ H (compG k sel g te σ Q)

theorem comp_core {elt iter tg : Expr} {pos : Pos} {te : TE} {g : TG} {it : Addr} {fp : List Addr} {tn : Nat → Heap → Prop} {J : It} {E : Value → Shared → Prop} {Fin : List V → Hp → Prop} {W : Nat → Nat → List V → L2.St → Hp → Prop}
    {RR : Value → Addr → Result → Shared → Prop} (S : CompSc fsc N xs ys sel scope) (eS : X.env.scope = fsc) (eN : X.N = N) (hc : X.calm = true)
    (hg : ∀ cl C s₀ H₀ ex pn, PG (cxC X (xs ++ ys) scope cl C s₀ H₀ ex pn) tg g) (he : ∀ cl C s₀ H₀ ex pn, PE (cxC X (xs ++ ys) scope cl C s₀ H₀ ex pn) elt te)
    (I : Inv X pins σ H s) (T : Turn X.prog X.w X.K tg J fp it tn) (st : tn 0 s.heap) (hf : ∀ b ∈ fp, FpOk X pins H b) (w0 : ∃ m, W 0 m [] (capOf xs.length sel σ) H)
    (turn : ∀ i m ys σ H, W i m ys σ H → (J.stop i H ∧ Fin ys H) ∨ (J.go i H ∧ ys.length < sizeLine ∧ ∀ v H', J.yld i H v H' → g v σ H' fun σ2 H2 => te σ2 H2 fun y H3 => ∃ m', m' < m ∧ W (i + 1) m' (ys ++ [y]) σ2 H3))
    (hRR : ∀ D C s' ys H' m', Fin ys H' → H' D = none → Inv X pins σ (upd H' D (.lst ys)) s' → s'.heap.Ns C m' → FpOk X pins (upd H' D (.lst ys)) C → RR (.ref D) C (.ok .next) s') :
    wpAny (model X.prog X.w) X.A (newList []) (fun acc s₃ => wpAny (model X.prog X.w) X.A (newFunctionEnv scope X.env.globals (clsOf scope.names X.env []) [] X.env.qual none .none (some X.env)) (fun cenv s₄ =>
      codeAny (model X.prog X.w) X.A (.compStart (.ListComp elt [⟨tg, iter, [], 0⟩] scope pos) 0 (.ref it) acc { cenv with scope := relabel scope X.env }) (RR acc cenv.locals) s₄) E s₃) E s := by
  refine wpAny_newObj_type (wpAny_newFunctionEnv S.nocell (by intro y hy; simp at hy) (fun h₁ hns₁ hsb₁ => ?_) S.kind)
  dsimp only at hns₁ hsb₁ ⊢
  generalize hH2 : s.heap.push { cls := .type "list", dict := none, data := .seq ([] : List Value).toArray } = H2 at hns₁ hsb₁ ⊢
  have hC : H2.objs.size = s.heap.objs.size + 1 := by rw [← hH2, Heap.size_push]
  have hDC : s.heap.objs.size ≠ H2.objs.size := by rw [hC]; exact Nat.ne_of_lt (Nat.lt_succ_self _)
  have hCle : s.heap.objs.size ≤ H2.objs.size := by rw [hC]; exact Nat.le_succ _
  have below : ∀ b, b < s.heap.objs.size → b ≠ H2.objs.size ∧ b ≠ s.heap.objs.size := fun b hb => ⟨by rw [hC]; exact Nat.ne_of_lt (Nat.lt_succ_of_lt hb), Nat.ne_of_lt hb⟩
  have old : ∀ b o, s.heap.get? b = some o → h₁.get? b = some o := fun b o e => hsb₁.extBut b o (below b (Heap.lt_size e)).1 (Heap.get?_push_of_some _ (hH2 ▸ Heap.get?_push_of_some _ e))
  have hacc : h₁.get? s.heap.objs.size = some { cls := .type "list", data := .seq ([] : List Value).toArray } := hsb₁.extBut _ _ hDC (Heap.get?_push_of_some _ (hH2 ▸ Heap.get?_push_size _ rfl))
  have hlive : ∀ b ∈ fp, ∃ o, s.heap.get? b = some o := fun b hb => by
    obtain ⟨o, ho, _⟩ := T.obj 0 _ st b hb
    exact ⟨o, ho⟩
  have hDf : ∀ b ∈ fp, b ≠ s.heap.objs.size := fun b hb z => by
    obtain ⟨o, ho⟩ := hlive b hb
    exact absurd (Heap.lt_size ho) (by rw [z]; exact Nat.lt_irrefl _)
  generalize hDD : s.heap.objs.size = D at hDC hCle below hacc hDf ⊢
  generalize hCC : H2.objs.size = C at hns₁ hsb₁ hDC hCle below ⊢
  have hCs : s.heap.objs.size ≤ C := by rw [hDD]; exact hCle
  have IC := comp_inv (t' := s.toks + ([] : List (Str × Value)).length) S eS eN I hf hlive old hCs hns₁
  -- what is true of the accumulator and of the iterator's records
  have fpD : ∀ {H' : Hp}, H' D = none → FpOk (cxC X (xs ++ ys) scope (clsOf scope.names X.env []) C s H fp (X.pn ++ pins)) [] H' D := fun {H'} hn => by
    refine ⟨hn, hDC, ?_, .inr (show s.heap.objs.size ≤ D from Nat.le_of_eq hDD), fun y c e z => ?_, fun p hp z => ?_⟩
    · intro z
      exact (List.mem_cons.mp (I.stkSub D z)).elim (fun q => absurd I.lt (by rw [← q, hDD]; exact Nat.lt_irrefl _)) (fun q => I.nofs (Nat.le_of_eq hDD) q)
    · obtain ⟨v, q⟩ := I.cell y c (cls_lookup e)
      exact absurd q.lt (by rw [z, hDD]; exact Nat.lt_irrefl _)
    · have hp' : p ∈ X.pn ++ pins := by
        rcases List.mem_append.mp hp with q | q
        · exact q
        · cases q
      exact absurd (Heap.lt_size (I.pin p hp').1) (by rw [z, hDD]; exact Nat.lt_irrefl _)
  have fpF : ∀ {H' : Hp} {pl : List (Addr × Obj)}, (∀ p ∈ pl, p.1 = D) → (∀ b ∈ fp, H' b = none) → ∀ b ∈ fp, FpOk (cxC X (xs ++ ys) scope (clsOf scope.names X.env []) C s H fp (X.pn ++ pins)) pl H' b := fun {H' pl} hpl hn b hb => by
    obtain ⟨f0, f1, f2, f3, f4, f5⟩ := hf b hb
    obtain ⟨o, ho⟩ := hlive b hb
    refine ⟨hn b hb, Nat.ne_of_lt (Nat.lt_of_lt_of_le (Heap.lt_size ho) hCs), fun z => (List.mem_cons.mp (I.stkSub b z)).elim f1 f2, .inl hb, fun y c e => f4 y c (cls_lookup e), fun p hp => ?_⟩
    rcases List.mem_append.mp hp with q | q
    · exact f5 p q
    · rw [hpl p q]; exact Ne.symm (hDf b hb)
  have one : ∀ {ob : Obj}, ∀ p ∈ [(D, ob)], p.1 = D := fun {ob} p hp => by
    rw [List.mem_singleton.mp hp]
  have none0 : ∀ p ∈ ([] : List (Addr × Obj)), p.1 = D := fun p hp => by cases hp
  have loop : ∀ s₃ : Shared, s₃ = { s with heap := h₁, toks := s.toks + ([] : List (Str × Value)).length } →
      codeAny (model X.prog X.w) X.A (.compLoop (.ListComp elt [⟨tg, iter, [], 0⟩] scope pos) 0 (.ref it) (.ref D) (compEnvC scope (clsOf scope.names X.env []) C X.env)) (RR (.ref D) C) s₃ := by
    rintro s₃ rfl
    obtain ⟨m0, w0⟩ := w0
    refine comp_loop (fun n s' => ∃ i σ' H' zs its cnt, Inv (cxC X (xs ++ ys) scope (clsOf scope.names X.env []) C s H fp (X.pn ++ pins)) [] σ' H' s' ∧ tn i s'.heap ∧ (∀ b ∈ fp, H' b = none) ∧
      s'.heap.get? D = some { cls := .type "list", data := .seq (its : List Value).toArray cnt } ∧ Vals zs its ∧ H' D = none ∧ zs.length ≤ sizeLine ∧ W i n zs σ' H') ?_ m0
      ⟨0, _, H, [], [], 0, IC, T.keep _ _ _ st fun b hb o e => old b o e, fun b hb => (hf b hb).1, hacc, .nil, I.hok.fresh (Nat.le_of_eq hDD), Nat.zero_le _, w0⟩
    rintro n s' ⟨i, σ', H', zs, its, cnt, I', st', fr', hD', vv, nD', hz', w'⟩
    have Ip : Inv (cxC X (xs ++ ys) scope (clsOf scope.names X.env []) C s H fp (X.pn ++ pins)) [(D, { cls := .type "list", data := .seq its.toArray cnt })] σ' H' s' := I'.pins_of fun p hp => by
      rw [List.mem_singleton.mp hp]
      obtain ⟨f0, f1, f2, _⟩ := fpD nD'
      exact ⟨hD', nD', f1, f2, fun v z => by cases z⟩
    rcases turn i n zs σ' H' w' with ⟨stop, fin⟩ | ⟨go, hlt, step⟩
    · refine thn (T.done (cxC X (xs ++ ys) scope (clsOf scope.names X.env []) C s H fp (X.pn ++ pins)) rfl rfl rfl hc i _ s' σ' H' _ Ip (fpF one fr') st' stop) fun r s4 ⟨hr, I4⟩ => ?_
      subst hr
      dsimp only
      have pD4 := I4.pin (D, { cls := .type "list", data := .seq its.toArray cnt }) (List.mem_append_right _ List.mem_cons_self)
      have nC : H' C = none := I4.free
      obtain ⟨mC, hmC, _⟩ := I4.loc
      have hD4 : s4.heap.get? D = some { cls := .type "list", data := .seq its.toArray cnt } := pD4.1
      have uN : Un (frs X.stack) fp H (upd H' D (.lst zs)) s.heap s4.heap := by
        have u : Un (frs X.stack) fp H H' s.heap s4.heap := I4.base
        refine ⟨u.keep, u.slot, fun b o e n hx => ?_, u.there, fun b q e => ?_, fun b o q e => ?_, fun b q e => ?_⟩
        · rw [upd_ne (by rw [← hDD]; exact Nat.ne_of_lt (Heap.lt_size e))]
          exact u.free b o e n hx
        · have e' := u.tups b q e
          rw [upd_ne (ne_of_none e' nD')]
          exact e'
        · have e' := u.frzs b o q e
          rw [upd_ne (ne_of_none e' nD')]
          exact e'
        · obtain ⟨more, e'⟩ := u.tbls b q e
          exact ⟨more, by rw [upd_ne (ne_of_none e' nD')]; exact e'⟩
      have hokN : HOk X.prog X.w (upd H' D (.lst zs)) s4.heap := fun b u e => by
        by_cases hb : b = D
        · subst hb
          rw [upd_same] at e
          cases e
          exact ⟨hz', its, cnt, vv, hD4⟩
        · rw [upd_ne hb] at e
          exact (I4.hok b u e).stay (fun _ _ _ q => q) (fun c q => by rw [upd_ne (ne_of_none q nD')]; exact q) fun c _ q => by rw [upd_ne (ne_of_none q nD')]; exact q
      have IX : Inv X pins σ (upd H' D (.lst zs)) s4 := I.call' I4.os uN hokN I4.bare fun b hb => let ⟨_, f1, _, f3, f4, f5⟩ := hf b hb; ⟨f3, f1, f4, f5⟩
      refine hRR D C s4 zs H' mC fin nD' IX hmC (I.fpOk hCs ?_)
      rw [upd_ne (Ne.symm hDC)]
      exact nC
    · refine thn (T.item (cxC X (xs ++ ys) scope (clsOf scope.names X.env []) C s H fp (X.pn ++ pins)) rfl rfl rfl hc i _ s' σ' H' _ Ip (fpF one fr') st' go) fun r s4 ⟨u, hr, h4⟩ => ?_
      subst hr
      dsimp only
      refine thn h4 fun _ s5 ⟨x, H5, I5, r5, y5, st5, fr5⟩ => ?_
      have pD5 := I5.pin (D, { cls := .type "list", data := .seq its.toArray cnt }) (List.mem_append_right _ List.mem_cons_self)
      have nD5 : H5 D = none := pD5.2.1
      have hD5 : s5.heap.get? D = some { cls := .type "list", data := .seq its.toArray cnt } := pD5.1
      have I50 : Inv (cxC X (xs ++ ys) scope (clsOf scope.names X.env []) C s H fp (X.pn ++ pins)) [] σ' H5 s5 := I5.pins_of fun p hp => by cases hp
      have I5' := I50.pinned (fp := D :: fp) (fun b hb => by
        rcases List.mem_cons.mp hb with z | z
        · rw [z]; exact fpD nD5
        · exact fpF none0 fr5 b z) (fun b hb => by
        rcases List.mem_cons.mp hb with z | z
        · rw [z]; exact ⟨_, hD5, fun v z => by cases z⟩
        · exact T.obj _ _ st5 b z)
      refine thn (hg _ _ _ _ _ _ _ s5 σ' H5 x u _ I5' r5 (step x H5 y5)) fun _ s6 ⟨σ6, H6, I6, q6⟩ => ?_
      refine thn (he _ _ _ _ _ _ _ s6 σ6 H6 _ I6 q6) fun yv s7 ⟨y, H7, I7, r7, m', hm, w7⟩ => ?_
      have pin7 : ∀ {b : Addr} {o : Obj}, b ∈ D :: fp → s5.heap.get? b = some o → s7.heap.get? b = some o ∧ H7 b = none := fun {b o} hb e =>
        let q := I7.pin (b, o) (List.mem_append_right _ (List.mem_append_right _ (mem_pinsAt hb e))); ⟨q.1, q.2.1⟩
      obtain ⟨hD7, nD7⟩ := pin7 List.mem_cons_self hD5
      have hlv := vv.length
      refine call_meets F.slot_list_append ⟨_, hD7, rfl⟩ F.entry_list_append (F.args_list_append_2 _ _) (PySem.list_append D its.toArray cnt yv (by rw [List.size_toArray]; omega)) ⟨hD7, ?_⟩
      have q := PySem.IsL.update hD7 (fun a => a.push yv)
      have hp : its.toArray.push yv = (its ++ [yv]).toArray := by simp
      rw [hp] at q
      refine ⟨m', hm, i + 1, σ6, H7, zs ++ [y], its ++ [yv], _, ?_, ?_, fun b hb => ?_, q, vv.append (.cons r7 .nil), nD7, ?_, w7⟩
      · obtain ⟨f0, f1, f2, f3, f4, f5⟩ := fpD nD7
        exact I7.unpinned.turned (it := D) (fun b o hb e => (Heap.get?_update_other _ _ (Ne.symm hb)).trans e) f0 f1 f3 f4 f5
      · refine T.keep _ _ _ st5 fun b hb o e => ?_
        exact (Heap.get?_update_other _ _ (Ne.symm (hDf b hb))).trans (pin7 (List.mem_cons_of_mem _ hb) e).1
      · obtain ⟨o, e, _⟩ := T.obj _ _ st5 b hb
        exact (pin7 (List.mem_cons_of_mem _ hb) e).2
      · rw [List.length_append, List.length_singleton]
        omega
  exact codeAny_compStart_list (loop _ rfl) (T.self X.A 0 _ _ _ (T.keep _ _ _ st fun b hb o e => old b o e) (loop _ rfl))

theorem pe_comp {elt iter tg : Expr} {pos : Pos} {te : TE} {g : TG} {wi : TI} (S : CompSc fsc N xs ys sel scope) (eS : X.env.scope = fsc) (eN : X.N = N) (hc : X.calm = true) (hi : PI X tg iter wi)
    (hg : ∀ cl C s₀ H₀ ex pn, PG (cxC X (xs ++ ys) scope cl C s₀ H₀ ex pn) tg g) (he : ∀ cl C s₀ H₀ ex pn, PE (cxC X (xs ++ ys) scope cl C s₀ H₀ ex pn) elt te)
    (hs : ∀ x, foldedSetIterable iter X.env x = pure x := by intro _; rfl) : PE X (.ListComp elt [⟨tg, iter, [], 0⟩] scope pos) (tComp xs.length sel wi g te) := by
  intro pins s σ H Q I h
  rw [eval_ListComp]
  have hclos : closureFor scope X.env = pure (clsOf scope.names X.env []) := closure_eq fun z hz hk => I.ok.has z.1 (.inl (by rw [← eS] at S; exact S.free z hz hk))
  refine wpAny_comprehension_free (use := none) rfl hs hclos S.kind S.names (thn (hi pins s σ H _ I h) fun v s1 h1 => thn h1 fun itv s2 h2 => ?_)
  obtain ⟨it, fp, tn, J, H2, e, I2, T, st2, f2, W, w0, turn⟩ := h2
  subst e
  refine comp_core (Fin := fun ys H => ∀ p, H p = none → Q (.ref p) (upd H p (.lst ys))) (RR := fun acc C => compPost (model X.prog X.w) X.A X.xe none (EP X pins σ Q) acc C) S eS eN hc hg he I2 T st2 f2 w0 turn ?_
  intro D C s' zs H' m' fin nD IX hn hfp
  refine ⟨m', hn, fun h' hsb => ?_⟩
  obtain ⟨f0, f1, f2, f3, f4, f5⟩ := hfp
  exact ⟨.ref D, _, IX.turned (it := C) (t' := s'.toks) (fun b o hb e => hsb.extBut b o hb e) f0 f1 f3 f4 f5, rfl, fin D nD⟩

end

theorem comp_list {K : PySem.W.Frag} {a : Addr} {xs : List V} {sel : List Nat} {σ : L2.St} {te : TE} {Q : VK} {H : Hp} (Pv : Nat → List V → Hp → Prop) (hz : xs.length ≤ sizeLine) (h0 : Pv 0 [] H) (hlen : ∀ i ys H, Pv i ys H → ys.length = i) (hl : ∀ i ys H, Pv i ys H → SqL K H a xs)
    (hs : ∀ i ys H x (C : VK), xs[i]? = some x → Pv i ys H → (∀ y H2, Pv (i + 1) (ys ++ [y]) H2 → C y H2) → te (some x :: sel.map fun j => (σ[j]?).join) H C) (hd : ∀ ys H, Pv xs.length ys H → ∀ p, H p = none → Q (.ref p) (upd H p (.lst ys))) :
    compG 1 sel (gName 0) te σ Q (Itl K a) H := by
  refine ⟨fun i m ys σ' H => m = xs.length - i ∧ i ≤ xs.length ∧ (∃ v0, σ' = v0 :: sel.map fun j => (σ[j]?).join) ∧ Pv i ys H, ⟨xs.length, by simp, Nat.zero_le _, ⟨_, rfl⟩, h0⟩, ?_⟩
  rintro i m ys σ' H ⟨rfl, hi, ⟨v0, rfl⟩, p⟩
  have q := hl i ys H p
  by_cases hlt : i < xs.length
  · refine .inr ⟨⟨xs, xs[i], q, by simp [hlt]⟩, by rw [hlen i ys H p]; omega, fun v H' y => ?_⟩
    obtain ⟨e, y⟩ := y
    subst e
    exact hs i ys _ v _ (y xs q) p fun y H3 q => ⟨xs.length - (i + 1), by omega, rfl, hlt, ⟨_, rfl⟩, q⟩
  · have e : i = xs.length := by omega
    subst e
    exact .inl ⟨⟨xs, q, Nat.le_refl _⟩, hd ys H p⟩
end LX
namespace LX
open PySem PySem.Spec PyProof.Rows L2

section
variable {X : Cx} {tg : Expr}
end
section
variable {X : Cx}
theorem call_isinst : CallR X (.builtin "isinstance") (fun xs H Q => ∃ x T t b, xs = [x, .ty T] ∧ TyOf X.K H x t ∧ PySem.W.kitOne X.K t (.type T) = some b ∧ Q (.bl b) H) := by
  intro pins s σ H xs us Q I r h
  obtain ⟨x, T, t, b, rfl, ty, e, q⟩ := h
  obtain ⟨u, w', rfl, rx, ry⟩ := vals2 r
  cases ry
  exact isinst_ok I rx ty e fun tk => ⟨.bl b, H, I.tok tk, rfl, q⟩

end
end LX
namespace LX
open PySem PySem.Spec PyProof.Rows L2
open Sem (wp)

abbrev IsTri (h : Heap) (T : Addr) (a b c : Value) : Prop := h.get? T = some { cls := .type "tuple", data := .seq #[a, b, c] }
theorem upd_tri {prog : Program} {w : World} {A : Around} {E : Value → Shared → Prop} {s : Shared} {T : Addr} {a b c x : Value} {k : Nat} {Q : Unit → Shared → Prop} (hT : IsTri s.heap T a b c)
    (h : ∀ h', h'.get? T = some { cls := .type "tuple", data := .seq ((#[a, b, c] : Array Value).setIfInBounds k x) } → Heap.SameBut T s.heap h' → Q () { s with heap := h' }) :
    wpAny (model prog w) A (updateSeq T (·.setIfInBounds k x)) Q E s := by
  refine wpAny_updateSeq hT rfl (h _ ?_ (Heap.SameBut.update ..))
  rw [Heap.get?_update_self _ hT rfl]
  simp [Obj.mapSeq]
structure Ap2 (z TI TO i1 i2 : Addr) (fp1 fp2 : List Addr) : Prop where
  z1 : z ∉ fp1
  z2 : z ∉ fp2
  o1 : TO ∉ fp1
  o2 : TO ∉ fp2
  i12 : i1 ∉ fp2
  i21 : i2 ∉ fp1
  TIz : TI ≠ z
  TIO : TI ≠ TO
  TI1 : TI ≠ i1
  TI2 : TI ≠ i2
  Oz : TO ≠ z
  O1 : TO ≠ i1
  O2 : TO ≠ i2
  y1 : i1 ≠ z
  y2 : i2 ≠ z
structure Ap3 (z TI TO i1 i2 i3 : Addr) (fp1 fp2 fp3 : List Addr) : Prop where
  z1 : z ∉ fp1
  z2 : z ∉ fp2
  z3 : z ∉ fp3
  o1 : TO ∉ fp1
  o2 : TO ∉ fp2
  o3 : TO ∉ fp3
  i12 : i1 ∉ fp2
  i13 : i1 ∉ fp3
  i21 : i2 ∉ fp1
  i23 : i2 ∉ fp3
  i31 : i3 ∉ fp1
  i32 : i3 ∉ fp2
  TIz : TI ≠ z
  TIO : TI ≠ TO
  TI1 : TI ≠ i1
  TI2 : TI ≠ i2
  TI3 : TI ≠ i3
  Oz : TO ≠ z
  O1 : TO ≠ i1
  O2 : TO ≠ i2
  O3 : TO ≠ i3
  y1 : i1 ≠ z
  y2 : i2 ≠ z
  y3 : i3 ≠ z
section
variable {prog : Program} {w : World} {A : Around} {E : Value → Shared → Prop} {s : Shared}
theorem zip2_item {z TI TO i1 i2 : Addr} {fp1 fp2 : List Addr} {n1 n2 k : Nat} {P1 P2 : Nat → Value → Prop} {St1 St2 : Nat → Heap → Prop} {a b : Value} {Q : Value → Shared → Prop}
    (D1 : Draws prog w A i1 fp1 n1 P1 St1) (D2 : Draws prog w A i2 fp2 n2 P2 St2) (ap : Ap2 z TI TO i1 i2 fp1 fp2)
    (hz : IsZip s.heap z TI TO .none) (hTI : IsPair s.heap TI (.ref i1) (.ref i2)) (hTO : IsPair s.heap TO a b) (h1 : St1 k s.heap) (h2 : St2 k s.heap) (k1 : k < n1) (k2 : k < n2)
    (hQ : ∀ x y h' tk, P1 k x → P2 k y → IsZip h' z TI TO (rawInt s.heap.objs.size) → IsPair h' TO x y → St1 (k + 1) h' → St2 (k + 1) h' → IsPair h' s.heap.objs.size x y →
      (∀ c o, c ≠ z → c ≠ TO → c ≠ i1 → c ≠ i2 → s.heap.get? c = some o → h'.get? c = some o) → Q (.ref s.heap.objs.size) { s with heap := h', toks := tk }) :
    wpAny (model prog w) A (Builtin.«zip.__next__» ⟨[.ref z], []⟩) (fun fin s' => ∃ v, fin = .done (.ret v) ∧ Q v s') E s := by
  show wpAny _ _ (field (.ref z) 2 >>= _) _ _ _
  refine wpAny_bind (wpAny_field hz rfl (x := .bool false) rfl ?_)
  show wpAny _ _ (field (.ref z) 3 >>= _) _ _ _
  refine wpAny_bind (wpAny_field hz rfl (x := .ref TI) rfl ?_)
  refine wpAny_bind (wpAny_seqItems hTI rfl ?_)
  show wpAny _ _ (Builtin.SmallTypes.ownedTupleIsFree (.ref z) >>= _) _ _ _
  refine wpAny_bind ?_
  unfold Builtin.SmallTypes.ownedTupleIsFree
  refine wpAny_bind (wpAny_field hz rfl (x := .none) rfl (wpAny_pure ?_))
  simp only [if_true]
  refine wpAny_bind (wpAny_rule ?_)
  refine wpAny_bind (wpAny_field hz rfl (x := .ref TO) rfl ?_)
  refine wpAny_bind (wpAny_setField_rec hz (by simp) fun g1 hz₁ sb1 => ?_)
  replace hz₁ : IsZip g1 z TI TO .ellipsis := hz₁
  refine wpAny_bind ?_
  simp only [List.zipIdx_cons, List.zipIdx_nil, List.forIn_cons, List.forIn_nil]
  refine wpAny_bind (wpAny_bind (wpAny_onRaise ?_))
  show wpAny _ _ (Builtin.SmallTypes.nextOf (.ref i1) >>= _) _ _ _
  have a1 : St1 k g1 := D1.frame _ _ _ h1 fun c hc o e => sb1.extBut c o (fun q => ap.z1 (q ▸ hc)) e
  refine wpAny_bind (D1.item k _ _ _ k1 a1 fun x g2 tk1 hx b1 sb2 => wpAny_pure ?_)
  replace sb2 : Heap.SameBut i1 g1 g2 := sb2
  have o2 : IsPair g2 TO a b := sb2.extBut _ _ ap.O1 (sb1.extBut _ _ ap.Oz hTO)
  refine wpAny_bind (wpAny_seqItems o2 rfl ?_)
  refine wpAny_bind (wpAny_updateSeq_pair o2 fun g3 o3 sb3 => ?_)
  replace o3 : IsPair g3 TO x b := o3
  replace sb3 : Heap.SameBut TO g2 g3 := sb3
  refine wpAny_bind (wpAny_letGo (wpAny_pure ?_))
  refine wpAny_bind (wpAny_bind (wpAny_onRaise ?_))
  show wpAny _ _ (Builtin.SmallTypes.nextOf (.ref i2) >>= _) _ _ _
  have a2 : St2 k g3 := D2.frame _ _ _ h2 fun c hc o e => sb3.extBut c o (fun q => ap.o2 (q ▸ hc)) (sb2.extBut c o (fun q => ap.i12 (q ▸ hc)) (sb1.extBut c o (fun q => ap.z2 (q ▸ hc)) e))
  refine wpAny_bind (D2.item k _ _ _ k2 a2 fun y g4 tk2 hy b2 sb4 => wpAny_pure ?_)
  replace sb4 : Heap.SameBut i2 g3 g4 := sb4
  have o4 : IsPair g4 TO x b := sb4.extBut _ _ ap.O2 o3
  refine wpAny_bind (wpAny_seqItems o4 rfl ?_)
  refine wpAny_bind (wpAny_updateSeq_pair o4 fun g5 o5 sb5 => ?_)
  replace o5 : IsPair g5 TO x y := o5
  replace sb5 : Heap.SameBut TO g4 g5 := sb5
  refine wpAny_bind (wpAny_letGo (wpAny_pure (wpAny_pure ?_)))
  refine wpAny_bind (wpAny_seqItems o5 rfl ?_)
  refine wpAny_bind (wpAny_newTuple ?_)
  have hsz : g5.objs.size = s.heap.objs.size := by rw [sb5.1, sb4.1, sb3.1, sb2.1, sb1.1]
  have z5 : IsZip g5 z TI TO .ellipsis := sb5.extBut _ _ ap.Oz.symm (sb4.extBut _ _ ap.y2.symm (sb3.extBut _ _ ap.Oz.symm (sb2.extBut _ _ ap.y1.symm hz₁)))
  have k5 : ∀ c o, c ≠ z → c ≠ TO → c ≠ i1 → c ≠ i2 → s.heap.get? c = some o → g5.get? c = some o := fun c o c1 c2 c3 c4 e =>
    sb5.extBut _ _ c2 (sb4.extBut _ _ c4 (sb3.extBut _ _ c2 (sb2.extBut _ _ c3 (sb1.extBut _ _ c1 e))))
  have e1 : St1 (k + 1) g5 := D1.frame _ _ _ b1 fun c hc o e => sb5.extBut c o (fun q => ap.o1 (q ▸ hc)) (sb4.extBut c o (fun q => ap.i21 (q ▸ hc)) (sb3.extBut c o (fun q => ap.o1 (q ▸ hc)) e))
  have e2 : St2 (k + 1) g5 := D2.frame _ _ _ b2 fun c hc o e => sb5.extBut c o (fun q => ap.o2 (q ▸ hc)) e
  have zlt : z < g5.objs.size := Heap.lt_size z5
  show wpAny _ _ (Builtin.SmallTypes.ownedTupleHandOut (.ref z) (.ref g5.objs.size) >>= _) _ _ _
  refine wpAny_bind ?_
  unfold Builtin.SmallTypes.ownedTupleHandOut
  have z6 : IsZip (g5.push { cls := .type "tuple", data := .seq #[x, y] }) z TI TO .ellipsis := Heap.get?_push_of_some _ z5
  refine wpAny_bind (wpAny_setField_rec z6 (by simp) fun g7 z7 sb7 => ?_)
  replace z7 : IsZip g7 z TI TO (rawInt g5.objs.size) := z7
  refine wpAny_setField_rec z7 (by simp) fun g8 z8 sb8 => ?_
  replace z8 : IsZip g8 z TI TO (rawInt g5.objs.size) := z8
  have up : ∀ c o, c ≠ z → g5.get? c = some o → g8.get? c = some o := fun c o c1 e => sb8.extBut _ _ c1 (sb7.extBut _ _ c1 (Heap.get?_push_of_some _ e))
  have t8 : IsPair g8 g5.objs.size x y := sb8.extBut _ _ (Nat.ne_of_gt zlt) (sb7.extBut _ _ (Nat.ne_of_gt zlt) (Heap.get?_push_size _ rfl))
  rw [hsz] at z8 t8
  refine wpAny_pure ⟨_, rfl, ?_⟩
  show Q (.ref g5.objs.size) _
  rw [hsz]
  exact hQ x y g8 _ hx hy z8 (up _ _ ap.Oz o5) (D1.frame _ _ _ e1 fun c hc o e => up c o (fun q => ap.z1 (q ▸ hc)) e) (D2.frame _ _ _ e2 fun c hc o e => up c o (fun q => ap.z2 (q ▸ hc)) e) t8
    fun c o c1 c2 c3 c4 e => up c o c1 (k5 c o c1 c2 c3 c4 e)

/-- the first iterator is at its end -/
theorem zip_end {z TI TO i1 : Addr} {its : Array Value} {rest : List Value} {fp1 : List Addr} {n1 : Nat} {P1 : Nat → Value → Prop} {St1 : Nat → Heap → Prop} {Q : Fin → Shared → Prop}
    (D1 : Draws prog w A i1 fp1 n1 P1 St1) (z1 : z ∉ fp1) (y1 : i1 ≠ z) (hits : its.toList = .ref i1 :: rest) (hz : IsZip s.heap z TI TO .none) (hTI : s.heap.get? TI = some { cls := .type "tuple", data := .seq its }) (h1 : St1 n1 s.heap)
    (hE : ∀ h' e, (∀ c o, c ≠ z → c ≠ i1 → s.heap.get? c = some o → h'.get? c = some o) → (∃ o, h'.get? e = some o ∧ o.cls = .type "StopIteration") → E (.ref e) { s with heap := h' }) :
    wpAny (model prog w) A (Builtin.«zip.__next__» ⟨[.ref z], []⟩) Q E s := by
  show wpAny _ _ (field (.ref z) 2 >>= _) _ _ _
  refine wpAny_bind (wpAny_field hz rfl (x := .bool false) rfl ?_)
  show wpAny _ _ (field (.ref z) 3 >>= _) _ _ _
  refine wpAny_bind (wpAny_field hz rfl (x := .ref TI) rfl ?_)
  refine wpAny_bind (wpAny_seqItems hTI rfl ?_)
  have hne : its.isEmpty = false := by
    cases e : its.isEmpty with
    | false => rfl
    | true =>
      have := Array.isEmpty_iff.mp e
      rw [this] at hits
      cases hits
  dsimp only
  rw [hne]
  simp only [Bool.false_eq_true, if_false]
  show wpAny _ _ (Builtin.SmallTypes.ownedTupleIsFree (.ref z) >>= _) _ _ _
  refine wpAny_bind ?_
  unfold Builtin.SmallTypes.ownedTupleIsFree
  refine wpAny_bind (wpAny_field hz rfl (x := .none) rfl (wpAny_pure ?_))
  simp only [if_true]
  refine wpAny_bind (wpAny_rule ?_)
  refine wpAny_bind (wpAny_field hz rfl (x := .ref TO) rfl ?_)
  refine wpAny_bind (wpAny_setField_rec hz (by simp) fun g1 hz₁ sb1 => ?_)
  replace hz₁ : IsZip g1 z TI TO .ellipsis := hz₁
  refine wpAny_bind ?_
  rw [hits]
  simp only [List.zipIdx_cons, List.forIn_cons]
  refine wpAny_bind (wpAny_bind (wpAny_onRaise ?_))
  show wpAny _ _ (Builtin.SmallTypes.nextOf (.ref i1) >>= _) _ _ _
  have a1 : St1 n1 g1 := D1.frame _ _ _ h1 fun c hc o e => sb1.extBut c o (fun q => z1 (q ▸ hc)) e
  refine wpAny_bind (D1.done _ _ _ a1 fun g2 e sb2 he => ?_)
  obtain ⟨oe, hoe, hce⟩ := he
  have hz₂ : IsZip g2 z TI TO .ellipsis := sb2 _ _ y1.symm hz₁
  have hez : e ≠ z := fun x => by subst x; rw [hz₂] at hoe; cases hoe; simp at hce
  refine wpAny_setField_rec hz₂ (by simp) fun g3 _ sb3 => hE g3 e (fun c o c1 c3 x => sb3.extBut _ _ c1 (sb2 _ _ c3 (sb1.extBut _ _ c1 x))) ⟨oe, sb3.extBut _ _ hez hoe, hce⟩
theorem pyNext_zip_end {z TI TO i1 : Addr} {its : Array Value} {rest : List Value} {fp1 : List Addr} {n1 : Nat} {P1 : Nat → Value → Prop} {St1 : Nat → Heap → Prop} {Q : Option Value → Shared → Prop}
    (D1 : Draws prog w A.in1 i1 fp1 n1 P1 St1) (z1 : z ∉ fp1) (y1 : i1 ≠ z) (hits : its.toList = .ref i1 :: rest) (hz : IsZip s.heap z TI TO .none) (hTI : s.heap.get? TI = some { cls := .type "tuple", data := .seq its }) (h1 : St1 n1 s.heap)
    (hQ : ∀ h', (∀ c o, c ≠ z → c ≠ i1 → s.heap.get? c = some o → h'.get? c = some o) → Q none { s with heap := h' }) : wpAny (model prog w) A (pyNext (.ref z)) Q E s := by
  have hT : s.TypeIs (.ref z) "zip" := ⟨_, hz, rfl⟩
  unfold pyNext
  refine wpAny_bind (wpAny_attempt (wpAny_callSpecial?_slot (name := Str.ofString "__next__") hT F.slot_zip_next
    (wpAny_call_entry F.slot_zip_next hT F.entry_zip_next (zip_end D1 z1 y1 hits hz hTI h1 fun h' e hk he => ?_) (F.args_zip_next_1 _))))
  obtain ⟨o, ho, hc⟩ := he
  refine wpAny_bind (wpAny_isInstance (T := "StopIteration") (b := true) ⟨o, ho, hc⟩ isSubtype_stop ?_)
  exact wpAny_pure (hQ _ hk)
theorem pyNext_zip2_item {z TI TO i1 i2 : Addr} {fp1 fp2 : List Addr} {n1 n2 k : Nat} {P1 P2 : Nat → Value → Prop} {St1 St2 : Nat → Heap → Prop} {a b : Value} {Q : Option Value → Shared → Prop}
    (D1 : Draws prog w A.in1 i1 fp1 n1 P1 St1) (D2 : Draws prog w A.in1 i2 fp2 n2 P2 St2) (ap : Ap2 z TI TO i1 i2 fp1 fp2)
    (hz : IsZip s.heap z TI TO .none) (hTI : IsPair s.heap TI (.ref i1) (.ref i2)) (hTO : IsPair s.heap TO a b) (h1 : St1 k s.heap) (h2 : St2 k s.heap) (k1 : k < n1) (k2 : k < n2)
    (hQ : ∀ x y h' tk, P1 k x → P2 k y → IsZip h' z TI TO (rawInt s.heap.objs.size) → IsPair h' TO x y → St1 (k + 1) h' → St2 (k + 1) h' → IsPair h' s.heap.objs.size x y →
      (∀ c o, c ≠ z → c ≠ TO → c ≠ i1 → c ≠ i2 → s.heap.get? c = some o → h'.get? c = some o) → Q (some (.ref s.heap.objs.size)) { s with heap := h', toks := tk }) :
    wpAny (model prog w) A (pyNext (.ref z)) Q E s := by
  have hT : s.TypeIs (.ref z) "zip" := ⟨_, hz, rfl⟩
  unfold pyNext
  exact wpAny_bind (wpAny_attempt (wpAny_callSpecial?_slot (name := Str.ofString "__next__") hT F.slot_zip_next
    (wpAny_call_entry F.slot_zip_next hT F.entry_zip_next
      (zip2_item D1 D2 ap hz hTI hTO h1 h2 k1 k2 fun x y h' tk p1 p2 c1 c2 c3 c4 c5 c6 => wpAny_pure (hQ x y h' tk p1 p2 c1 c2 c3 c4 c5 c6)) (F.args_zip_next_1 _))))
theorem zip3_item {z TI TO i1 i2 i3 : Addr} {fp1 fp2 fp3 : List Addr} {n1 n2 n3 k : Nat} {P1 P2 P3 : Nat → Value → Prop} {St1 St2 St3 : Nat → Heap → Prop} {a b c0 : Value} {Q : Value → Shared → Prop}
    (D1 : Draws prog w A i1 fp1 n1 P1 St1) (D2 : Draws prog w A i2 fp2 n2 P2 St2) (D3 : Draws prog w A i3 fp3 n3 P3 St3) (ap : Ap3 z TI TO i1 i2 i3 fp1 fp2 fp3)
    (hz : IsZip s.heap z TI TO .none) (hTI : IsTri s.heap TI (.ref i1) (.ref i2) (.ref i3)) (hTO : IsTri s.heap TO a b c0) (h1 : St1 k s.heap) (h2 : St2 k s.heap) (h3 : St3 k s.heap) (k1 : k < n1) (k2 : k < n2) (k3 : k < n3)
    (hQ : ∀ x y u h' tk, P1 k x → P2 k y → P3 k u → IsZip h' z TI TO (rawInt s.heap.objs.size) → IsTri h' TO x y u → St1 (k + 1) h' → St2 (k + 1) h' → St3 (k + 1) h' → IsTri h' s.heap.objs.size x y u →
      (∀ c o, c ≠ z → c ≠ TO → c ≠ i1 → c ≠ i2 → c ≠ i3 → s.heap.get? c = some o → h'.get? c = some o) → Q (.ref s.heap.objs.size) { s with heap := h', toks := tk }) :
    wpAny (model prog w) A (Builtin.«zip.__next__» ⟨[.ref z], []⟩) (fun fin s' => ∃ v, fin = .done (.ret v) ∧ Q v s') E s := by
  show wpAny _ _ (field (.ref z) 2 >>= _) _ _ _
  refine wpAny_bind (wpAny_field hz rfl (x := .bool false) rfl ?_)
  show wpAny _ _ (field (.ref z) 3 >>= _) _ _ _
  refine wpAny_bind (wpAny_field hz rfl (x := .ref TI) rfl ?_)
  refine wpAny_bind (wpAny_seqItems hTI rfl ?_)
  show wpAny _ _ (Builtin.SmallTypes.ownedTupleIsFree (.ref z) >>= _) _ _ _
  refine wpAny_bind ?_
  unfold Builtin.SmallTypes.ownedTupleIsFree
  refine wpAny_bind (wpAny_field hz rfl (x := .none) rfl (wpAny_pure ?_))
  simp only [if_true]
  refine wpAny_bind (wpAny_rule ?_)
  refine wpAny_bind (wpAny_field hz rfl (x := .ref TO) rfl ?_)
  refine wpAny_bind (wpAny_setField_rec hz (by simp) fun g1 hz₁ sb1 => ?_)
  replace hz₁ : IsZip g1 z TI TO .ellipsis := hz₁
  refine wpAny_bind ?_
  simp only [List.zipIdx_cons, List.zipIdx_nil, List.forIn_cons, List.forIn_nil]
  refine wpAny_bind (wpAny_bind (wpAny_onRaise ?_))
  show wpAny _ _ (Builtin.SmallTypes.nextOf (.ref i1) >>= _) _ _ _
  have a1 : St1 k g1 := D1.frame _ _ _ h1 fun c hc o e => sb1.extBut c o (fun q => ap.z1 (q ▸ hc)) e
  refine wpAny_bind (D1.item k _ _ _ k1 a1 fun x g2 tk1 hx b1 sb2 => wpAny_pure ?_)
  replace sb2 : Heap.SameBut i1 g1 g2 := sb2
  have o2 : IsTri g2 TO a b c0 := sb2.extBut _ _ ap.O1 (sb1.extBut _ _ ap.Oz hTO)
  refine wpAny_bind (wpAny_seqItems o2 rfl ?_)
  refine wpAny_bind (upd_tri o2 fun g3 o3 sb3 => ?_)
  replace o3 : IsTri g3 TO x b c0 := o3
  replace sb3 : Heap.SameBut TO g2 g3 := sb3
  refine wpAny_bind (wpAny_letGo (wpAny_pure ?_))
  refine wpAny_bind (wpAny_bind (wpAny_onRaise ?_))
  show wpAny _ _ (Builtin.SmallTypes.nextOf (.ref i2) >>= _) _ _ _
  have a2 : St2 k g3 := D2.frame _ _ _ h2 fun c hc o e => sb3.extBut c o (fun q => ap.o2 (q ▸ hc)) (sb2.extBut c o (fun q => ap.i12 (q ▸ hc)) (sb1.extBut c o (fun q => ap.z2 (q ▸ hc)) e))
  refine wpAny_bind (D2.item k _ _ _ k2 a2 fun y g4 tk2 hy b2 sb4 => wpAny_pure ?_)
  replace sb4 : Heap.SameBut i2 g3 g4 := sb4
  have o4 : IsTri g4 TO x b c0 := sb4.extBut _ _ ap.O2 o3
  refine wpAny_bind (wpAny_seqItems o4 rfl ?_)
  refine wpAny_bind (upd_tri o4 fun g5 o5 sb5 => ?_)
  replace o5 : IsTri g5 TO x y c0 := o5
  replace sb5 : Heap.SameBut TO g4 g5 := sb5
  refine wpAny_bind (wpAny_letGo (wpAny_pure ?_))
  refine wpAny_bind (wpAny_bind (wpAny_onRaise ?_))
  show wpAny _ _ (Builtin.SmallTypes.nextOf (.ref i3) >>= _) _ _ _
  have a3 : St3 k g5 := D3.frame _ _ _ h3 fun c hc o e => sb5.extBut c o (fun q => ap.o3 (q ▸ hc)) (sb4.extBut c o (fun q => ap.i23 (q ▸ hc)) (sb3.extBut c o (fun q => ap.o3 (q ▸ hc)) (sb2.extBut c o (fun q => ap.i13 (q ▸ hc)) (sb1.extBut c o (fun q => ap.z3 (q ▸ hc)) e))))
  refine wpAny_bind (D3.item k _ _ _ k3 a3 fun u g6 tk3 hu b3 sb6 => wpAny_pure ?_)
  replace sb6 : Heap.SameBut i3 g5 g6 := sb6
  have o6 : IsTri g6 TO x y c0 := sb6.extBut _ _ ap.O3 o5
  refine wpAny_bind (wpAny_seqItems o6 rfl ?_)
  refine wpAny_bind (upd_tri o6 fun g7 o7 sb7 => ?_)
  replace o7 : IsTri g7 TO x y u := o7
  replace sb7 : Heap.SameBut TO g6 g7 := sb7
  refine wpAny_bind (wpAny_letGo (wpAny_pure (wpAny_pure ?_)))
  refine wpAny_bind (wpAny_seqItems o7 rfl ?_)
  refine wpAny_bind (wpAny_newTuple ?_)
  have hsz : g7.objs.size = s.heap.objs.size := by rw [sb7.1, sb6.1, sb5.1, sb4.1, sb3.1, sb2.1, sb1.1]
  have z7 : IsZip g7 z TI TO .ellipsis := sb7.extBut _ _ ap.Oz.symm (sb6.extBut _ _ ap.y3.symm (sb5.extBut _ _ ap.Oz.symm (sb4.extBut _ _ ap.y2.symm (sb3.extBut _ _ ap.Oz.symm (sb2.extBut _ _ ap.y1.symm hz₁)))))
  have k7 : ∀ c o, c ≠ z → c ≠ TO → c ≠ i1 → c ≠ i2 → c ≠ i3 → s.heap.get? c = some o → g7.get? c = some o := fun c o c1 c2 c3 c4 c5 e =>
    sb7.extBut _ _ c2 (sb6.extBut _ _ c5 (sb5.extBut _ _ c2 (sb4.extBut _ _ c4 (sb3.extBut _ _ c2 (sb2.extBut _ _ c3 (sb1.extBut _ _ c1 e))))))
  have e1 : St1 (k + 1) g7 := D1.frame _ _ _ b1 fun c hc o e => sb7.extBut c o (fun q => ap.o1 (q ▸ hc)) (sb6.extBut c o (fun q => ap.i31 (q ▸ hc)) (sb5.extBut c o (fun q => ap.o1 (q ▸ hc)) (sb4.extBut c o (fun q => ap.i21 (q ▸ hc)) (sb3.extBut c o (fun q => ap.o1 (q ▸ hc)) e))))
  have e2 : St2 (k + 1) g7 := D2.frame _ _ _ b2 fun c hc o e => sb7.extBut c o (fun q => ap.o2 (q ▸ hc)) (sb6.extBut c o (fun q => ap.i32 (q ▸ hc)) (sb5.extBut c o (fun q => ap.o2 (q ▸ hc)) e))
  have e3 : St3 (k + 1) g7 := D3.frame _ _ _ b3 fun c hc o e => sb7.extBut c o (fun q => ap.o3 (q ▸ hc)) e
  have zlt : z < g7.objs.size := Heap.lt_size z7
  show wpAny _ _ (Builtin.SmallTypes.ownedTupleHandOut (.ref z) (.ref g7.objs.size) >>= _) _ _ _
  refine wpAny_bind ?_
  unfold Builtin.SmallTypes.ownedTupleHandOut
  have z8 : IsZip (g7.push { cls := .type "tuple", data := .seq #[x, y, u] }) z TI TO .ellipsis := Heap.get?_push_of_some _ z7
  refine wpAny_bind (wpAny_setField_rec z8 (by simp) fun g9 z9 sb9 => ?_)
  replace z9 : IsZip g9 z TI TO (rawInt g7.objs.size) := z9
  refine wpAny_setField_rec z9 (by simp) fun g10 z10 sb10 => ?_
  replace z10 : IsZip g10 z TI TO (rawInt g7.objs.size) := z10
  have up : ∀ c o, c ≠ z → g7.get? c = some o → g10.get? c = some o := fun c o c1 e => sb10.extBut _ _ c1 (sb9.extBut _ _ c1 (Heap.get?_push_of_some _ e))
  have t10 : IsTri g10 g7.objs.size x y u := sb10.extBut _ _ (Nat.ne_of_gt zlt) (sb9.extBut _ _ (Nat.ne_of_gt zlt) (Heap.get?_push_size _ rfl))
  rw [hsz] at z10 t10
  refine wpAny_pure ⟨_, rfl, ?_⟩
  show Q (.ref g7.objs.size) _
  rw [hsz]
  exact hQ x y u g10 _ hx hy hu z10 (up _ _ ap.Oz o7) (D1.frame _ _ _ e1 fun c hc o e => up c o (fun q => ap.z1 (q ▸ hc)) e) (D2.frame _ _ _ e2 fun c hc o e => up c o (fun q => ap.z2 (q ▸ hc)) e) (D3.frame _ _ _ e3 fun c hc o e => up c o (fun q => ap.z3 (q ▸ hc)) e) t10
    fun c o c1 c2 c3 c4 c5 e => up c o c1 (k7 c o c1 c2 c3 c4 c5 e)
theorem pyNext_zip3_item {z TI TO i1 i2 i3 : Addr} {fp1 fp2 fp3 : List Addr} {n1 n2 n3 k : Nat} {P1 P2 P3 : Nat → Value → Prop} {St1 St2 St3 : Nat → Heap → Prop} {a b c0 : Value} {Q : Option Value → Shared → Prop}
    (D1 : Draws prog w A.in1 i1 fp1 n1 P1 St1) (D2 : Draws prog w A.in1 i2 fp2 n2 P2 St2) (D3 : Draws prog w A.in1 i3 fp3 n3 P3 St3) (ap : Ap3 z TI TO i1 i2 i3 fp1 fp2 fp3)
    (hz : IsZip s.heap z TI TO .none) (hTI : IsTri s.heap TI (.ref i1) (.ref i2) (.ref i3)) (hTO : IsTri s.heap TO a b c0) (h1 : St1 k s.heap) (h2 : St2 k s.heap) (h3 : St3 k s.heap) (k1 : k < n1) (k2 : k < n2) (k3 : k < n3)
    (hQ : ∀ x y u h' tk, P1 k x → P2 k y → P3 k u → IsZip h' z TI TO (rawInt s.heap.objs.size) → IsTri h' TO x y u → St1 (k + 1) h' → St2 (k + 1) h' → St3 (k + 1) h' → IsTri h' s.heap.objs.size x y u →
      (∀ c o, c ≠ z → c ≠ TO → c ≠ i1 → c ≠ i2 → c ≠ i3 → s.heap.get? c = some o → h'.get? c = some o) → Q (some (.ref s.heap.objs.size)) { s with heap := h', toks := tk }) :
    wpAny (model prog w) A (pyNext (.ref z)) Q E s := by
  have hT : s.TypeIs (.ref z) "zip" := ⟨_, hz, rfl⟩
  unfold pyNext
  exact wpAny_bind (wpAny_attempt (wpAny_callSpecial?_slot (name := Str.ofString "__next__") hT F.slot_zip_next
    (wpAny_call_entry F.slot_zip_next hT F.entry_zip_next
      (zip3_item D1 D2 D3 ap hz hTI hTO h1 h2 h3 k1 k2 k3 fun x y u h' tk p1 p2 p3 c1 c2 c3 c4 c5 c6 c7 => wpAny_pure (hQ x y u h' tk p1 p2 p3 c1 c2 c3 c4 c5 c6 c7)) (F.args_zip_next_1 _))))

def ItMk (v : Value) (o : Obj) (h : Heap) : Prop := ∀ (prog : Program) (w : World) (A : Around) (E : Value → Shared → Prop) (s : Shared) (Q : Value → Shared → Prop), (∀ b ob, h.get? b = some ob → s.heap.get? b = some ob) →
  Q (.ref s.heap.objs.size) { s with heap := s.heap.push o } → wpAny (model prog w) A (pyIter v) Q E s
theorem itMk_list {l : Addr} {items : Array Value} {h : Heap} (hl : h.IsList l items) : ItMk (.ref l) { cls := .type "list_iterator", data := .fields #[.ref l, .int 0 0] } h :=
  fun _ _ _ _ _ _ k q => wpAny_pyIter_list (hl.at fun o e => k _ o e) q
theorem itMk_str {x : Str} {t : Tok} {h : Heap} : ItMk (.str x t) { cls := .type (strIterType x), data := .fields #[.str x t, .int 0 0] } h :=
  fun _ _ _ _ _ _ _ q => wpAny_pyIter_strU q
abbrev zh1 (h : Heap) (o1 : Obj) : Heap := h.push o1
abbrev zh2 (h : Heap) (o1 o2 : Obj) : Heap := (zh1 h o1).push o2
abbrev zh3 (h : Heap) (o1 o2 : Obj) : Heap := (zh2 h o1 o2).push { cls := .type "tuple", data := .seq #[.ref h.objs.size, .ref (zh1 h o1).objs.size] }
abbrev zh4 (h : Heap) (o1 o2 : Obj) : Heap := (zh3 h o1 o2).push { cls := .type "tuple", data := .seq #[.none, .none] }
abbrev zh5 (h : Heap) (o1 o2 : Obj) : Heap := (zh4 h o1 o2).push { cls := .type "zip", data := .fields #[.none, .bool false, .bool false, .ref (zh2 h o1 o2).objs.size, .ref (zh3 h o1 o2).objs.size] }
theorem meets_zip2 (v1 v2 : Value) (o1 o2 : Obj) :
    Meets (Builtin.«zip.__new__» ⟨[.type "zip", v1, v2], []⟩) (fun _ R s => ItMk v1 o1 s.heap ∧ ItMk v2 o2 s.heap ∧ R (.ok (.ret (.ref (zh4 s.heap o1 o2).objs.size))) { s with heap := zh5 s.heap o1 o2 }) :=
  .of_wp fun prog w A R s h => by
    obtain ⟨hp, g, d, tk, os⟩ := s; obtain ⟨m1, m2, h⟩ := h
    have hsub := sub_zip
    have M1 := fun (A : Around) (E : Value → Shared → Prop) (Q : Value → Shared → Prop) => m1 prog w A E ⟨hp, g, d, tk, os⟩ Q (fun _ _ e => e)
    have M2 := fun (A : Around) (E : Value → Shared → Prop) (Q : Value → Shared → Prop) => m2 prog w A E ⟨hp.push o1, g, d, tk, os⟩ Q (fun _ _ e => Heap.get?_push_of_some _ e)
    wp_walk using M1 _ _ _, M2 _ _ _
    exact ⟨_, rfl, h⟩
theorem call_zip2 {v1 v2 : Value} {o1 o2 : Obj} {Q : Value → Shared → Prop} (m1 : ItMk v1 o1 s.heap) (m2 : ItMk v2 o2 s.heap) (f1 : o1.isFreed = false) (f2 : o2.isFreed = false)
    (h : ∀ h', IsZip h' (s.heap.objs.size + 4) (s.heap.objs.size + 2) (s.heap.objs.size + 3) .none → IsPair h' (s.heap.objs.size + 2) (.ref s.heap.objs.size) (.ref (s.heap.objs.size + 1)) →
      IsPair h' (s.heap.objs.size + 3) .none .none → h'.get? s.heap.objs.size = some o1 → h'.get? (s.heap.objs.size + 1) = some o2 →
      (∀ c o, s.heap.get? c = some o → h'.get? c = some o) → Q (.ref (s.heap.objs.size + 4)) { s with heap := h' }) :
    wpAny (model prog w) A (call (.type "zip") [v1, v2]) Q E s := by
  refine callType_new F.called_zip (by decide) (F.typeCall_zip_2 _ _) (F.newCall_zip_2 _ _) (fun obj => F.args_object_init_3 obj _ _) F.entry_zip_new (meets_zip2 v1 v2 o1 o2) ⟨m1, m2, ?_⟩
  have z1 : (zh1 s.heap o1).objs.size = s.heap.objs.size + 1 := Heap.size_push ..
  have z2 : (zh2 s.heap o1 o2).objs.size = s.heap.objs.size + 2 := by rw [Heap.size_push, z1]
  have z3 : (zh3 s.heap o1 o2).objs.size = s.heap.objs.size + 3 := by rw [Heap.size_push, z2]
  have z4 : (zh4 s.heap o1 o2).objs.size = s.heap.objs.size + 4 := by rw [Heap.size_push, z3]
  have g5 : (zh5 s.heap o1 o2).get? (zh4 s.heap o1 o2).objs.size = some _ := Heap.get?_push_size _ rfl
  have g4 : (zh5 s.heap o1 o2).get? (zh3 s.heap o1 o2).objs.size = some _ := Heap.get?_push_of_some _ (Heap.get?_push_size _ rfl)
  have g3 : (zh5 s.heap o1 o2).get? (zh2 s.heap o1 o2).objs.size = some _ := Heap.get?_push_of_some _ (Heap.get?_push_of_some _ (Heap.get?_push_size _ rfl))
  have g2 : (zh5 s.heap o1 o2).get? (zh1 s.heap o1).objs.size = some o2 := Heap.get?_push_of_some _ (Heap.get?_push_of_some _ (Heap.get?_push_of_some _ (Heap.get?_push_size _ f2)))
  have g1 : (zh5 s.heap o1 o2).get? s.heap.objs.size = some o1 := Heap.get?_push_of_some _ (Heap.get?_push_of_some _ (Heap.get?_push_of_some _ (Heap.get?_push_of_some _ (Heap.get?_push_size _ f1))))
  show _ ∧ _
  rw [z2, z3, z4] at g5
  rw [z1, z2] at g3
  rw [z3] at g4
  rw [z1] at g2
  rw [z4]
  exact ⟨⟨_, g5, rfl⟩, h _ g5 g3 g4 g1 g2 fun c o x => Heap.get?_push_of_some _ (Heap.get?_push_of_some _ (Heap.get?_push_of_some _ (Heap.get?_push_of_some _ (Heap.get?_push_of_some _ x))))⟩
theorem typeCall_zip_3 (a b c : Value) : checkTypeCall "zip" ⟨[a, b, c], []⟩ = pure () := by kernel_rfl
theorem newCall_zip_3 (a b c : Value) : checkBuiltinCall "zip.__new__" ⟨[.type "zip", a, b, c], []⟩ = pure () := by kernel_rfl
theorem args_init_4 (a b c d : Value) : argsOk "object.__init__" ⟨[a, b, c, d], []⟩ := by
  unfold argsOk; rw [signature?_of (id := "object.__init__") (n := ['_', '_', 't', 'i', 'n', 'i', '_', '_']) (o := ['t', 'c', 'e', 'j', 'b', 'o']) (by kernel_rfl) F.owner_object]; kernel_rfl
abbrev zk3 (h : Heap) (o1 o2 o3 : Obj) : Heap := (zh2 h o1 o2).push o3
abbrev zk4 (h : Heap) (o1 o2 o3 : Obj) : Heap := (zk3 h o1 o2 o3).push { cls := .type "tuple", data := .seq #[.ref h.objs.size, .ref (zh1 h o1).objs.size, .ref (zh2 h o1 o2).objs.size] }
abbrev zk5 (h : Heap) (o1 o2 o3 : Obj) : Heap := (zk4 h o1 o2 o3).push { cls := .type "tuple", data := .seq #[.none, .none, .none] }
abbrev zk6 (h : Heap) (o1 o2 o3 : Obj) : Heap := (zk5 h o1 o2 o3).push { cls := .type "zip", data := .fields #[.none, .bool false, .bool false, .ref (zk3 h o1 o2 o3).objs.size, .ref (zk4 h o1 o2 o3).objs.size] }
theorem meets_zip3 (v1 v2 v3 : Value) (o1 o2 o3 : Obj) :
    Meets (Builtin.«zip.__new__» ⟨[.type "zip", v1, v2, v3], []⟩) (fun _ R s => ItMk v1 o1 s.heap ∧ ItMk v2 o2 s.heap ∧ ItMk v3 o3 s.heap ∧ R (.ok (.ret (.ref (zk5 s.heap o1 o2 o3).objs.size))) { s with heap := zk6 s.heap o1 o2 o3 }) :=
  .of_wp fun prog w A R s h => by
    obtain ⟨hp, g, d, tk, os⟩ := s; obtain ⟨m1, m2, m3, h⟩ := h
    have hsub := sub_zip
    have M1 := fun (A : Around) (E : Value → Shared → Prop) (Q : Value → Shared → Prop) => m1 prog w A E ⟨hp, g, d, tk, os⟩ Q (fun _ _ e => e)
    have M2 := fun (A : Around) (E : Value → Shared → Prop) (Q : Value → Shared → Prop) => m2 prog w A E ⟨hp.push o1, g, d, tk, os⟩ Q (fun _ _ e => Heap.get?_push_of_some _ e)
    have M3 := fun (A : Around) (E : Value → Shared → Prop) (Q : Value → Shared → Prop) => m3 prog w A E ⟨(hp.push o1).push o2, g, d, tk, os⟩ Q (fun _ _ e => Heap.get?_push_of_some _ (Heap.get?_push_of_some _ e))
    wp_walk using M1 _ _ _, M2 _ _ _, M3 _ _ _
    exact ⟨_, rfl, h⟩
theorem call_zip3 {v1 v2 v3 : Value} {o1 o2 o3 : Obj} {Q : Value → Shared → Prop} (m1 : ItMk v1 o1 s.heap) (m2 : ItMk v2 o2 s.heap) (m3 : ItMk v3 o3 s.heap) (f1 : o1.isFreed = false) (f2 : o2.isFreed = false) (f3 : o3.isFreed = false)
    (h : ∀ h', IsZip h' (s.heap.objs.size + 5) (s.heap.objs.size + 3) (s.heap.objs.size + 4) .none → IsTri h' (s.heap.objs.size + 3) (.ref s.heap.objs.size) (.ref (s.heap.objs.size + 1)) (.ref (s.heap.objs.size + 2)) →
      IsTri h' (s.heap.objs.size + 4) .none .none .none → h'.get? s.heap.objs.size = some o1 → h'.get? (s.heap.objs.size + 1) = some o2 → h'.get? (s.heap.objs.size + 2) = some o3 →
      (∀ c o, s.heap.get? c = some o → h'.get? c = some o) → Q (.ref (s.heap.objs.size + 5)) { s with heap := h' }) :
    wpAny (model prog w) A (call (.type "zip") [v1, v2, v3]) Q E s := by
  refine callType_new F.called_zip (by decide) (typeCall_zip_3 _ _ _) (newCall_zip_3 _ _ _) (fun obj => args_init_4 obj _ _ _) F.entry_zip_new (meets_zip3 v1 v2 v3 o1 o2 o3) ⟨m1, m2, m3, ?_⟩
  have z1 : (zh1 s.heap o1).objs.size = s.heap.objs.size + 1 := Heap.size_push ..
  have z2 : (zh2 s.heap o1 o2).objs.size = s.heap.objs.size + 2 := by rw [Heap.size_push, z1]
  have z3 : (zk3 s.heap o1 o2 o3).objs.size = s.heap.objs.size + 3 := by rw [Heap.size_push, z2]
  have z4 : (zk4 s.heap o1 o2 o3).objs.size = s.heap.objs.size + 4 := by rw [Heap.size_push, z3]
  have z5 : (zk5 s.heap o1 o2 o3).objs.size = s.heap.objs.size + 5 := by rw [Heap.size_push, z4]
  have g6 : (zk6 s.heap o1 o2 o3).get? (zk5 s.heap o1 o2 o3).objs.size = some _ := Heap.get?_push_size _ rfl
  have g5 : (zk6 s.heap o1 o2 o3).get? (zk4 s.heap o1 o2 o3).objs.size = some _ := Heap.get?_push_of_some _ (Heap.get?_push_size _ rfl)
  have g4 : (zk6 s.heap o1 o2 o3).get? (zk3 s.heap o1 o2 o3).objs.size = some _ := Heap.get?_push_of_some _ (Heap.get?_push_of_some _ (Heap.get?_push_size _ rfl))
  have g3 : (zk6 s.heap o1 o2 o3).get? (zh2 s.heap o1 o2).objs.size = some o3 := Heap.get?_push_of_some _ (Heap.get?_push_of_some _ (Heap.get?_push_of_some _ (Heap.get?_push_size _ f3)))
  have g2 : (zk6 s.heap o1 o2 o3).get? (zh1 s.heap o1).objs.size = some o2 := Heap.get?_push_of_some _ (Heap.get?_push_of_some _ (Heap.get?_push_of_some _ (Heap.get?_push_of_some _ (Heap.get?_push_size _ f2))))
  have g1 : (zk6 s.heap o1 o2 o3).get? s.heap.objs.size = some o1 := Heap.get?_push_of_some _ (Heap.get?_push_of_some _ (Heap.get?_push_of_some _ (Heap.get?_push_of_some _ (Heap.get?_push_of_some _ (Heap.get?_push_size _ f1)))))
  show _ ∧ _
  rw [z3, z4, z5] at g6
  rw [z1, z2, z3] at g4
  rw [z4] at g5
  rw [z2] at g3
  rw [z1] at g2
  rw [z5]
  exact ⟨⟨_, g6, rfl⟩, h _ g6 g4 g5 g1 g2 g3 fun c o x => Heap.get?_push_of_some _ (Heap.get?_push_of_some _ (Heap.get?_push_of_some _ (Heap.get?_push_of_some _ (Heap.get?_push_of_some _ (Heap.get?_push_of_some _ x)))))⟩
end
end LX
namespace LX
open PySem PySem.Spec PyProof.Rows L2
open Sem (wp)
theorem nolen_lri : typeLookup (.type "list_reverseiterator") "__len__" = pure none := by rw [typeLookup_type, builtinLookup_eq_fast]; kernel_rfl
theorem hint_lri : typeLookup (.type "list_reverseiterator") "__length_hint__" = pure (some (.builtin "list_reverseiterator.__length_hint__")) := by rw [typeLookup_type, builtinLookup_eq_fast]; kernel_rfl
section
variable {prog : Program} {w : World} {A : Around} {E : Value → Shared → Prop} {s : Shared}
theorem extend_rev {R : Result → Shared → Prop} {I : Addr} {fp wr : List Addr} {n : Nat} {P : Nat → Value → Prop} {St : Nat → Heap → Prop} (W : Walks prog w A.in1 I fp wr n P St) (hT : ∀ i (s : Shared), St i s.heap → s.TypeIs (.ref I) "list_reverseiterator") (S : Addr) (res : Value) (c₀ : Nat)
    (hS : s.heap.get? S = some { cls := .type "list", data := .seq #[] c₀ }) (hSf : S ∉ fp) (hI : I ∈ fp) (hst : St 0 s.heap)
    (hR : ∀ h' tk acc' c', (∀ b o, b ≠ S → b ∉ wr → s.heap.get? b = some o → h'.get? b = some o) → h'.get? S = some { cls := .type "list", dict := none, data := .seq acc' c', slots := #[] } →
      ItemsOf P acc' n → R (.ok (.ret res)) { s with heap := h', toks := tk }) (hn : n ≤ sizeLine) :
    wpAny (model prog w) A.in1 (Builtin.List.listExtendWith (.ref S) (.ref I) res)
      (fun fin s' => match fin with | .done f => R (.ok f) s' | .again c' => c'.quiet = true ∧ codeAny (model prog w) A c' R s') (fun e s' => R (.error e) s') s := by
  have hSI : S ≠ I := fun e => hSf (e ▸ hI)
  have h1 : Builtin.List.listSameRef (.ref S) (.ref I) = false := by simp [Builtin.List.listSameRef, hSI]
  unfold Builtin.List.listExtendWith
  refine wpAny_bind (wpAny_typeOf (hT 0 _ hst) ?_)
  rw [if_neg (by rw [h1]; decide)]
  refine wpAny_bind (W.self 0 _ _ _ hst ?_)
  refine wpAny_bind (wpAny_holding ?_)
  unfold Builtin.List.listLengthHint
  refine wpAny_bind (wpAny_specialOf (hT 0 _ hst) nolen_lri ?_)
  show wpAny _ A.in1 (specialOf (Value.ref I) (Str.ofString "__length_hint__") >>= _) _ _ _
  refine wpAny_bind (wpAny_specialOf (hT 0 _ hst) hint_lri ?_)
  (generalize hid : ("list_reverseiterator.__length_hint__" : String) = id0; wp_delta; rw [show splitId id0 = some ("list_reverseiterator", "__length_hint__") from by subst hid; decide +kernel]; subst hid)
  refine wpAny_bind (wpAny_isInstance (b := true) (hT 0 _ hst) (by rw [isSubtype_type]; kernel_rfl) ?_)
  refine wpAny_pure ?_
  rw [if_neg (by decide)]
  refine wpAny_pure ⟨plainId_quiet F.plain_extend_loop _, codeAny_extend_loopS W.toS hn _ hSf _ n 0 _ _ _ rfl (Nat.zero_le _) hst hS (ItemsOf.nil P) fun s' acc' c' hm hS' hacc => ?_⟩
  rw [Moved.eq_with hm]
  refine hR s'.heap s'.toks acc' c' (fun b ob hb hw e => hm.heap b ob (fun hmem => ?_) e) hS' hacc
  rcases List.mem_cons.mp hmem with e' | hmem
  · exact hb e'
  · exact hw hmem
theorem list_init_rev {R : Result → Shared → Prop} {I : Addr} {fp wr : List Addr} {n : Nat} {P : Nat → Value → Prop} {St : Nat → Heap → Prop} (W : Walks prog w A.in1 I fp wr n P St) (hT : ∀ i (s : Shared), St i s.heap → s.TypeIs (.ref I) "list_reverseiterator") (S : Addr)
    (hS : s.heap.get? S = some { cls := .type "list", data := .seq #[] }) (hSf : S ∉ fp) (hI : I ∈ fp) (hst : St 0 s.heap)
    (hR : ∀ h' tk acc' c', (∀ b o, b ≠ S → b ∉ wr → s.heap.get? b = some o → h'.get? b = some o) → h'.get? S = some { cls := .type "list", dict := none, data := .seq acc' c', slots := #[] } →
      ItemsOf P acc' n → R (.ok (.ret .none)) { s with heap := h', toks := tk }) (hn : n ≤ sizeLine) :
    wpAny (model prog w) A.in1 (Builtin.«list.__init__» ⟨[.ref S, .ref I], []⟩)
      (fun fin s' => match fin with | .done f => R (.ok f) s' | .again c' => c'.quiet = true ∧ codeAny (model prog w) A c' R s') (fun e s' => R (.error e) s') s := by
  show wpAny _ _ (do let old ← Builtin.List.listItems (.ref S); Builtin.List.listUpdate (.ref S) (fun _ => #[]); letGo old.toList.reverse; Builtin.List.listExtendWith (.ref S) (.ref I) .none) _ _ s
  refine wpAny_bind ?_
  unfold Builtin.List.listItems
  refine wpAny_bind (wpAny_seqItems hS rfl (wpAny_pure ?_))
  show wpAny _ _ (updateSeq S (fun _ => #[]) >>= fun _ => letGo (#[] : Array Value).toList.reverse >>= fun _ => Builtin.List.listExtendWith (.ref S) (.ref I) .none) _ _ s
  refine wpAny_bind (wpAny_updateSeq hS rfl ?_)
  have hS₂ := Heap.get?_update_self (Obj.mapSeq (fun _ => (#[] : Array Value))) hS rfl
  have oth : ∀ b o, b ≠ S → s.heap.get? b = some o → (s.heap.update S (Obj.mapSeq (fun _ => (#[] : Array Value)))).get? b = some o :=
    fun b o hb e => (Heap.get?_update_other _ _ (Ne.symm hb)).trans e
  refine wpAny_bind (wpAny_letGo ?_)
  refine extend_rev W hT S .none _ hS₂ hSf hI (W.frame _ _ _ hst fun b hb o e => oth b o (fun q => hSf (q ▸ hb)) e) (fun h' tk acc' c' hk hS' hacc => ?_) hn
  exact hR h' tk acc' c' (fun b o hb hw e => hk b o hb hw (oth b o hb e)) hS' hacc
theorem call_list_rev {Q : Value → Shared → Prop} (hh : A.handled = none) {l I : Addr} {items : Array Value} (hit : s.heap.IsRevIter I l ((items.size : Int) - 1)) (hl : s.heap.IsList l items) (hne : l ≠ I)
    (hQ : ∀ h' tk acc' c', (∀ b o, b ≠ I → s.heap.get? b = some o → h'.get? b = some o) →
      h'.get? s.heap.objs.size = some { cls := .type "list", dict := none, data := .seq acc' c', slots := #[] } → ItemsOf (fun i v => items[items.size - 1 - i]? = some v) acc' items.size → Q (.ref s.heap.objs.size) { s with heap := h', toks := tk }) (hn : items.size ≤ sizeLine) :
    wpAny (model prog w) A (call (.type "list") [.ref I]) Q E s := by
  refine callType_codes (Q₁ := fun obj s₁ => obj = .ref s.heap.objs.size ∧ s₁ = { s with heap := s.heap.push { cls := .type "list", data := .seq #[] } }) F.called_list (F.typeCall_list_1 _) F.entry_list_init
    (code_list_new _ ⟨rfl, rfl⟩) fun obj s₁ h₁ => ?_
  obtain ⟨rfl, rfl⟩ := h₁
  have hS : (s.heap.push { cls := .type "list", data := .seq #[] }).get? s.heap.objs.size = some { cls := .type "list", data := .seq #[] } := Heap.get?_push_size _ rfl
  have lI : I < s.heap.objs.size := by obtain ⟨o, ho, _⟩ := hit; exact Heap.lt_size ho
  have ll : l < s.heap.objs.size := by obtain ⟨o, ho, _⟩ := hl; exact Heap.lt_size ho
  refine ⟨⟨_, hS, rfl⟩, F.args_list_init_2 _ _, list_init_rev (A := A.in1) (Walks.listRev (A := A.in1.in1) hh I l hne items) (fun i s x => x.2.1.typeIs) _ hS ?_ (by simp) ⟨Nat.zero_le _, ?_, hl.at fun o e => Heap.get?_push_of_some _ e⟩ (fun h' tk acc' c' hk hS' hacc => ?_) hn⟩
  · intro hm
    rcases List.mem_cons.mp hm with e | hm
    · exact absurd lI (by rw [← e]; exact Nat.lt_irrefl _)
    · exact absurd ll (by rw [← List.mem_singleton.mp hm]; exact Nat.lt_irrefl _)
  · have e : (items.size : Int) - 1 - ((0 : Nat) : Int) = (items.size : Int) - 1 := by omega
    rw [e]
    exact hit.at fun o e => Heap.get?_push_of_some _ e
  · exact ⟨rfl, hQ h' tk acc' c' (fun b o hb e => hk b o (Nat.ne_of_lt (Heap.lt_size e)) (fun q => hb (List.mem_singleton.mp q)) (Heap.get?_push_of_some _ e)) hS' hacc⟩
end
end LX
namespace LX
open PySem PySem.Spec PyProof.Rows L2
open AutoSeq1 (wpAny_loadPart')
open SeqAt

section
variable {X : Cx}
theorem eqV_self {x : V} (f : flatV x = true) : eqV x x = true := by
  cases x with
  | non => rfl
  | bl b => simp [eqV]
  | int i => simp [eqV]
  | str z => simp [eqV]
  | _ => exact absurd (show false = true from f) Bool.false_ne_true
theorem same_items {A : Around} {s : Shared} : ∀ {xs : List V} {us vs : List Value}, Vals xs us → Vals xs vs → xs.all flatV = true → ∀ j (h1 : j < us.toArray.size) (h2 : j < vs.toArray.size), EqAt A s us.toArray[j] vs.toArray[j] true
  | _, _, _, .nil, .nil, _, j, h1, _ => by simp at h1
  | x :: xs, u :: us, v :: vs, .cons r t, .cons r' t', f, j, h1, h2 => by
    rw [List.all_cons, Bool.and_eq_true] at f
    cases j with
    | zero =>
      have := eqAt_V (A := A) (s := s) r r' f.1 f.1
      rw [eqV_self f.1] at this
      simpa using this
    | succ j =>
      have := same_items (A := A) (s := s) t t' f.2 j (by simpa using h1) (by simpa using h2)
      simpa using this
theorem items_rev {items : Array Value} {acc : Array Value} (h : ItemsOf (fun i v => items[items.size - 1 - i]? = some v) acc items.size) : acc.toList = items.toList.reverse := by
  obtain ⟨hs, hv⟩ := h
  refine List.ext_getElem? fun i => ?_
  by_cases hi : i < items.size
  · have h1 : acc[i]? = some acc[i] := Array.getElem?_eq_getElem (by omega)
    have h2 := hv i _ h1
    rw [List.getElem?_reverse (by simpa using hi), Array.getElem?_toList, Array.getElem?_toList, h1, Array.length_toList, h2]
  · rw [List.getElem?_eq_none (by rw [Array.length_toList]; omega), List.getElem?_eq_none (by rw [List.length_reverse, Array.length_toList]; omega)]
def tRev (K : PySem.W.Frag) (te : TE) : TE := fun σ H Q => te σ H fun x H1 => ∃ a ys, x = .ref a ∧ SqL K H1 a ys ∧ ∀ l, H1 l = none → Q (.ref l) (upd H1 l (.lst ys.reverse))
theorem pe_list_rev {e : Expr} {te : TE} {p p2 pos pos2 : Pos} (he : PE X e te) (hg : Gl X "list") (hm : X.mg "list" = none) (hg2 : Gl X "reversed") (hm2 : X.mg "reversed" = none) (hc : X.calm = true)
    (h1 : starEach [.Call (.Name "reversed" p2) [e] [] pos2] X.env = [(false, eval (.Call (.Name "reversed" p2) [e] [] pos2) X.env)] := by rfl) (h2 : starEach [e] X.env = [(false, eval e X.env)] := by rfl) :
    PE X (.Call (.Name "list" p) [.Call (.Name "reversed" p2) [e] [] pos2] [] pos) (tRev X.K te) := by
  intro pins s σ H Q I h
  refine wpAny_Call_Name_kw (ld_blt I hg hm PyProof.Rows.boot_list ?_ (by decide) (by decide))
  refine PyProof.Rows.callWith_type1 ?_ h1 (by rfl)
  rw [h1]
  show wpAny _ _ (spliced ((false, eval (.Call (.Name "reversed" p2) [e] [] pos2) X.env) :: backTo pos [])) _ _ s
  refine Calls.spliced_cons ?_
  refine wpAny_Call_Name_kw (ld_blt I hg2 hm2 PyProof.Rows.boot_reversed ?_ (by decide) (by decide))
  refine PyProof.Rows.callWith_type1 ?_ h2 (by rfl)
  rw [h2]
  show wpAny _ _ (spliced ((false, eval e X.env) :: backTo pos2 [])) _ _ s
  refine Calls.spliced_cons (thn (he pins s σ H _ I h) fun v s1 ⟨x, H1, I1, r1, q1⟩ => Calls.spliced_nil ?_)
  obtain ⟨a, ys, rfl, hq, k⟩ := q1
  cases r1
  obtain ⟨its, rv, l1, z1⟩ := I1.list hq
  have hlen := rv.length
  refine call_reversed_list l1.isList (Calls.spliced_nil ?_)
  have hl2 : (s1.heap.push (revObj a ((its.toArray.size : Int) - 1))).IsList a its.toArray := l1.isList.at fun o e => Heap.get?_push_of_some _ e
  have hit : (s1.heap.push (revObj a ((its.toArray.size : Int) - 1))).IsRevIter s1.heap.objs.size a ((its.toArray.size : Int) - 1) := ⟨_, Heap.get?_push_size _ rfl, rfl, rfl⟩
  have hne : a ≠ s1.heap.objs.size := by
    obtain ⟨o, ho, _⟩ := l1.isList
    exact Nat.ne_of_lt (Heap.lt_size ho)
  refine call_list_rev (s := { s1 with heap := s1.heap.push (revObj a ((its.toArray.size : Int) - 1)) }) (I1.ok.hd hc) hit hl2 hne (fun h' tk acc' c' kp e hacc => ?_) (by simp; omega)
  have hrev : acc'.toList = its.reverse := by
    have := items_rev hacc
    simpa using this
  have hz : (s1.heap.push (revObj a ((its.toArray.size : Int) - 1))).objs.size = s1.heap.objs.size + 1 := Heap.size_push ..
  have hle : s1.heap.objs.size ≤ (s1.heap.push (revObj a ((its.toArray.size : Int) - 1))).objs.size := by rw [hz]; exact Nat.le_succ _
  refine ⟨.ref _, _, I1.laid (t' := tk) (o := .lst ys.reverse) (fun b u q => kp b u (Nat.ne_of_lt (Heap.lt_size q)) (Heap.get?_push_of_some _ q)) hle ?_, rfl, k _ (I1.hok.fresh hle)⟩
  refine ⟨by rw [List.length_reverse]; exact z1, its.reverse, c', rv.reverse, ?_⟩
  rw [← hrev]
  simpa using e
end
end LX
namespace LX
open PySem PySem.Spec PyProof.Rows L2

structure Src where
  go : Nat → Hp → Prop
  itm : Nat → Hp → V → Prop
  stp : Nat → Hp → Prop
def srcL (K : PySem.W.Frag) (a : Addr) : Src := ⟨fun i H => ∃ xs x, SqL K H a xs ∧ xs[i]? = some x, fun i H x => ∀ xs, SqL K H a xs → xs[i]? = some x, fun i H => ∃ xs, SqL K H a xs ∧ xs.length = i⟩
def srcS (z : Str) : Src := ⟨fun i _ => i < z.cps.size, fun i _ x => ∃ c, z.cps.toList[i]? = some c ∧ x = .str ⟨#[c]⟩, fun i _ => z.cps.size = i⟩
structure SrcAt (S : Src) (K : PySem.W.Frag) (it : Addr) (tn : Nat → Heap → Prop) : Prop where
  obj : ∀ i h, tn i h → ∃ o, h.get? it = some o ∧ ∀ v, o.data ≠ .cell v
  keep : ∀ i h h', tn i h → (∀ o, h.get? it = some o → h'.get? it = some o) → tn i h'
  draw : ∀ (X : Cx), X.K = K → X.calm = true → ∀ (i : Nat) (pins : List (Addr × Obj)) (s : Shared) (σ : L2.St) (H : Hp), Inv X pins σ H s → H it = none → X.base.get? it = none → tn i s.heap → S.go i H →
    ∃ (fp : List Addr) (n : Nat) (P : Nat → Value → Prop) (Z : Nat → Heap → Prop), Draws X.prog X.w X.A.in1 it fp n P Z ∧ i < n ∧ Z i s.heap ∧ (∀ j h, Z j h → tn j h) ∧ (∀ u, P i u → ∃ x, RelV x u ∧ S.itm i H x) ∧ (∀ b ∈ fp, b = it ∨ H b ≠ none ∨ ∃ o, X.base.get? b = some o)
  fin : ∀ (X : Cx), X.K = K → X.calm = true → ∀ (i : Nat) (pins : List (Addr × Obj)) (s : Shared) (σ : L2.St) (H : Hp), Inv X pins σ H s → H it = none → X.base.get? it = none → tn i s.heap → S.stp i H →
    ∃ (fp : List Addr) (n : Nat) (P : Nat → Value → Prop) (Z : Nat → Heap → Prop), Draws X.prog X.w X.A.in1 it fp n P Z ∧ Z n s.heap ∧ (∀ b ∈ fp, b = it ∨ H b ≠ none ∨ ∃ o, X.base.get? b = some o)
theorem SqL.base {X : Cx} {pins : List (Addr × Obj)} {σ : L2.St} {H : Hp} {s : Shared} {a : Addr} {xs : List V} (I : Inv X pins σ H s) (h : SqL X.K H a xs) : H a ≠ none ∨ ∃ o, X.base.get? a = some o := by
  rcases h with (h | ⟨o, h⟩) | ⟨o, _, _, h, _⟩
  · exact .inl (by rw [h]; exact fun z => by cases z)
  · exact .inl (by rw [h]; exact fun z => by cases z)
  · exact .inr ⟨o, I.mod.kin a o h⟩
theorem srcAt_list {K : PySem.W.Frag} (a it : Addr) : SrcAt (srcL K a) K it (fun i h => h.IsListIter it a i) where
  obj := fun i h st => let ⟨o, e, c, d⟩ := st; ⟨o, e, fun v z => by rw [d] at z; cases z⟩
  keep := fun i h h' st k => st.at fun o e => k o e
  draw := by
    intro X hK hc i pins s σ H I hn nb st hg
    subst hK
    obtain ⟨xs, x, hq, hx⟩ := hg
    obtain ⟨its, rv, pl, hz⟩ := I.list hq
    have hl := rv.length
    have hb := SqL.base I hq
    have hne : a ≠ it := by
      rintro rfl
      rcases hb with z | ⟨o, z⟩
      · exact z hn
      · rw [nb] at z; cases z
    refine ⟨_, _, _, _, Draws.list (prog := X.prog) (w := X.w) (A := X.A.in1) (I.ok.hd hc) it a hne its.toArray, ?_, ⟨st, pl.isList⟩, fun j h z => z.1, fun u hu => ?_, fun b hb' => ?_⟩
    · have := (List.getElem?_eq_some_iff.mp hx).1
      rw [List.size_toArray]; omega
    · obtain ⟨u', hu', ru⟩ := rv.get hx
      have hu2 : its[i]? = some u := by simpa using hu
      rw [hu'] at hu2
      cases hu2
      exact ⟨x, ru, fun ys hy => by rw [I.list_inj hy hq]; exact hx⟩
    · rcases List.mem_cons.mp hb' with e | e
      · exact .inl e
      · rw [List.mem_singleton.mp e]; exact .inr hb
  fin := by
    intro X hK hc i pins s σ H I hn nb st hg
    subst hK
    obtain ⟨xs, hq, hx⟩ := hg
    obtain ⟨its, rv, pl, hz⟩ := I.list hq
    have hl := rv.length
    have hb := SqL.base I hq
    have hne : a ≠ it := by
      rintro rfl
      rcases hb with z | ⟨o, z⟩
      · exact z hn
      · rw [nb] at z; cases z
    refine ⟨_, _, _, _, Draws.list (prog := X.prog) (w := X.w) (A := X.A.in1) (I.ok.hd hc) it a hne its.toArray, ⟨?_, pl.isList⟩, fun b hb' => ?_⟩
    · have e : its.toArray.size = i := by rw [List.size_toArray]; omega
      rw [e]; exact st
    · rcases List.mem_cons.mp hb' with e | e
      · exact .inl e
      · rw [List.mem_singleton.mp e]; exact .inr hb
theorem srcAt_str {K : PySem.W.Frag} (z : Str) (t : Tok) (it : Addr) : SrcAt (srcS z) K it (fun i h => h.IsStrIter it (strIterType z) z t i) where
  obj := fun i h st => let ⟨o, e, c, d⟩ := st; ⟨o, e, fun v z => by rw [d] at z; cases z⟩
  keep := fun i h h' st k => let ⟨o, e, r⟩ := st; ⟨o, k o e, r⟩
  draw := by
    intro X hK hc i pins s σ H I hn nb st hg
    have hg' : i < z.cps.size := hg
    have itm : ∀ u, (∃ c v, z.cps[i]? = some c ∧ u = Value.str ⟨#[c]⟩ v) → ∃ x, RelV x u ∧ (srcS z).itm i H x := fun u ⟨c, v, h1, h2⟩ => ⟨.str ⟨#[c]⟩, ⟨v, h2⟩, c, by rw [Array.getElem?_toList]; exact h1, rfl⟩
    cases ha : z.cps.all (· < 128)
    · have e : strIterType z = "str_iterator" := by simp [strIterType, ha]
      rw [e] at st
      exact ⟨_, _, _, _, Draws.strWide (prog := X.prog) (w := X.w) (A := X.A.in1) (I.ok.hd hc) it z t, hg', st, fun j h q => by rw [e]; exact q, itm, fun b hb => .inl (List.mem_singleton.mp hb)⟩
    · have e : strIterType z = "str_ascii_iterator" := by simp [strIterType, ha]
      rw [e] at st
      exact ⟨_, _, _, _, Draws.strAscii (prog := X.prog) (w := X.w) (A := X.A.in1) (I.ok.hd hc) it z t, hg', st, fun j h q => by rw [e]; exact q, itm, fun b hb => .inl (List.mem_singleton.mp hb)⟩
  fin := by
    intro X hK hc i pins s σ H I hn nb st hg
    have hg' : z.cps.size = i := hg
    subst hg'
    cases ha : z.cps.all (· < 128)
    · have e : strIterType z = "str_iterator" := by simp [strIterType, ha]
      rw [e] at st
      exact ⟨_, _, _, _, Draws.strWide (prog := X.prog) (w := X.w) (A := X.A.in1) (I.ok.hd hc) it z t, st, fun b hb => .inl (List.mem_singleton.mp hb)⟩
    · have e : strIterType z = "str_ascii_iterator" := by simp [strIterType, ha]
      rw [e] at st
      exact ⟨_, _, _, _, Draws.strAscii (prog := X.prog) (w := X.w) (A := X.A.in1) (I.ok.hd hc) it z t, st, fun b hb => .inl (List.mem_singleton.mp hb)⟩

/-- a record of ours is no object of the module -/
theorem FpOk.nobase {X : Cx} {pins : List (Addr × Obj)} {σ : L2.St} {H H' : Hp} {s : Shared} {b : Addr} (I : Inv X pins σ H s) (f : FpOk X pins H' b) : X.base.get? b = none := by
  obtain ⟨_, _, _, f3, _⟩ := f
  cases e : X.base.get? b with
  | none => rfl
  | some o =>
    rcases f3 with z | z
    · exact absurd z (I.ok.noex b o e)
    · exact absurd (Nat.lt_of_lt_of_le (Heap.lt_size e) (Nat.le_trans I.ok.bsz z)) (Nat.lt_irrefl _)
/-- what a step of an iterator leaves: the records at ch turned, a new tuple tracked -/
theorem Inv.drawn {X : Cx} {pins : List (Addr × Obj)} {σ : L2.St} {H : Hp} {s : Shared} {h' : Heap} {tk : Nat} {ch : List Addr} {vs : List V} {us : List Value} (I : Inv X pins σ H s) (hf : ∀ b ∈ ch, FpOk X pins H b)
    (kp : ∀ c o, c ∉ ch → s.heap.get? c = some o → h'.get? c = some o) (ht : h'.get? s.heap.objs.size = some { cls := .type "tuple", data := .seq us.toArray }) (rv : Vals vs us) (hz : vs.length ≤ sizeLine) :
    Inv X pins σ (upd H s.heap.objs.size (.tup vs)) { s with heap := h', toks := tk } := by
  have fresh : H s.heap.objs.size = none := I.hok.fresh (Nat.le_refl _)
  have ltne : ∀ {b : Addr} {o : Obj}, s.heap.get? b = some o → b ≠ s.heap.objs.size := fun e => Nat.ne_of_lt (Heap.lt_size e)
  have nch : ∀ {b : Addr} {u : HO}, H b = some u → b ∉ ch := fun e z => by rw [(hf _ z).1] at e; cases e
  refine I.step (g' := s.gens) (d' := s.drawn) (ch := ch) (fun b hb => let ⟨_, f1, _, f3, f4, f5⟩ := hf b hb; ⟨f3, f1, f4, f5⟩) (fun b o _ _ hc e _ => kp b o hc e) (fun b o _ _ hc e _ => ⟨o.slots, kp b o hc e⟩)
    (fun b o _ e n => by rw [upd_ne (ltne e)]; exact n) (fun b o hc e => ⟨o, kp b o hc e⟩) (fun b xs e => by rw [upd_ne (ne_of_none e fresh)]; exact e) (fun b o u e => by rw [upd_ne (ne_of_none e fresh)]; exact e)
    (fun b ps e => ⟨#[], by rw [upd_ne (ne_of_none e fresh), e]; simp⟩) (fun m hm => ?_) (fun b u e => ?_) I.bare
  · obtain ⟨o, es, ep, ho, r⟩ := hm
    exact ⟨o, es, ep, kp _ o (fun z => (hf _ z).2.1 rfl) ho, r⟩
  · by_cases hb : b = s.heap.objs.size
    · subst hb
      rw [upd_same] at e
      cases e
      exact ⟨hz, us, rv, ⟨_, ht, rfl, _, rfl⟩⟩
    · rw [upd_ne hb] at e
      refine (I.hok b u e).stay (fun c v hc q => kp c v ?_ q) (fun c q => by rw [upd_ne (ne_of_none q fresh)]; exact q) fun c _ q => by rw [upd_ne (ne_of_none q fresh)]; exact q
      rcases hc with z | z
      · rw [z]; exact nch e
      · exact nch z

def Itz2 (S1 S2 : Src) : It := ⟨fun i H => S1.go i H ∧ S2.go i H, fun i H v H' => ∃ T x y, v = .ref T ∧ H T = none ∧ H' = upd H T (.tup [x, y]) ∧ S1.itm i H x ∧ S2.itm i H y, fun i H => S1.stp i H⟩
def Itz3 (S1 S2 S3 : Src) : It := ⟨fun i H => S1.go i H ∧ S2.go i H ∧ S3.go i H, fun i H v H' => ∃ T x y u, v = .ref T ∧ H T = none ∧ H' = upd H T (.tup [x, y, u]) ∧ S1.itm i H x ∧ S2.itm i H y ∧ S3.itm i H u, fun i H => S1.stp i H⟩
def Ite (S1 : Src) : It := ⟨fun i H => S1.go i H, fun i H v H' => ∃ T x, v = .ref T ∧ H T = none ∧ H' = upd H T (.tup [.int i, x]) ∧ S1.itm i H x, fun i H => S1.stp i H⟩

theorem turn_zip2 {P : Program} {w : World} {K : PySem.W.Frag} {elts : List Expr} {x1 : Nat} {pos : Pos} {S1 S2 : Src} {z TI TO i1 i2 : Addr} {t1 t2 : Nat → Heap → Prop} (A1 : SrcAt S1 K i1 t1) (A2 : SrcAt S2 K i2 t2) (nd : [z, TI, TO, i1, i2].Nodup) :
    Turn P w K (.Tuple elts x1 pos) (Itz2 S1 S2) [z, TI, TO, i1, i2] z (fun i h => IsZip h z TI TO .none ∧ IsPair h TI (.ref i1) (.ref i2) ∧ (∃ a b, IsPair h TO a b) ∧ t1 i h ∧ t2 i h) where
  mem := by simp
  obj := fun i h ⟨hz, hTI, ⟨a, b, hTO⟩, h1, h2⟩ c hc => by
    simp only [List.mem_cons, List.not_mem_nil, or_false] at hc
    rcases hc with rfl | rfl | rfl | rfl | rfl
    · exact ⟨_, hz, fun v q => by cases q⟩
    · exact ⟨_, hTI, fun v q => by cases q⟩
    · exact ⟨_, hTO, fun v q => by cases q⟩
    · exact A1.obj _ _ h1
    · exact A2.obj _ _ h2
  keep := fun i h h' ⟨hz, hTI, ⟨a, b, hTO⟩, h1, h2⟩ k => ⟨k z (by simp) _ hz, k TI (by simp) _ hTI, ⟨a, b, k TO (by simp) _ hTO⟩, A1.keep _ _ _ h1 fun o e => k i1 (by simp) o e, A2.keep _ _ _ h2 fun o e => k i2 (by simp) o e⟩
  item := by
    intro X hP hw hK hc i pins s σ H E I hf st hg
    subst hP hw hK
    obtain ⟨hz, hTI, ⟨a, b, hTO⟩, h1, h2⟩ := st
    simp only [List.nodup_cons, List.mem_cons, List.not_mem_nil, or_false, not_or] at nd
    obtain ⟨⟨n1, n2, n3, n4⟩, ⟨n5, n6, n7⟩, ⟨n8, n9⟩, n10, _⟩ := nd
    have fz := hf z (by simp)
    have fO := hf TO (by simp)
    have f1 := hf i1 (by simp)
    have f2 := hf i2 (by simp)
    obtain ⟨fp1, m1, P1, Z1, D1, k1, s1, c1, u1, e1⟩ := A1.draw X rfl hc i pins s σ H I f1.1 (FpOk.nobase I f1) h1 hg.1
    obtain ⟨fp2, m2, P2, Z2, D2, k2, s2, c2, u2, e2⟩ := A2.draw X rfl hc i pins s σ H I f2.1 (FpOk.nobase I f2) h2 hg.2
    have out : ∀ {b j : Addr} {fp : List Addr}, (∀ b ∈ fp, b = j ∨ H b ≠ none ∨ ∃ o, X.base.get? b = some o) → b ≠ j → FpOk X pins H b → b ∉ fp := fun {b j fp} e hne f hm => by
      rcases e b hm with q | q | ⟨o, q⟩
      · exact hne q
      · exact q f.1
      · rw [FpOk.nobase I f] at q; cases q
    have ap : Ap2 z TI TO i1 i2 fp1 fp2 := ⟨out e1 n3 fz, out e2 n4 fz, out e1 n8 fO, out e2 n9 fO, out e2 n10 f1, out e1 (Ne.symm n10) f2, Ne.symm n1, n5, n6, n7, Ne.symm n2, n8, n9, Ne.symm n3, Ne.symm n4⟩
    refine pyNext_zip2_item D1 D2 ap hz hTI hTO s1 s2 k1 k2 fun x y h' tk p1 p2 q1 q2 q3 q4 q5 q6 => ⟨_, rfl, ?_⟩
    obtain ⟨vx, rx, ix⟩ := u1 x p1
    obtain ⟨vy, ry, iy⟩ := u2 y p2
    have hT : s.heap.objs.size ≠ z := Nat.ne_of_gt (Heap.lt_size hz)
    refine wpAny_letOwnedTupleGo_zip q1 fun h'' z'' sb => ?_
    have IX : Inv X pins σ (upd H s.heap.objs.size (.tup [vx, vy])) { s with heap := h'', toks := tk } := Inv.drawn (ch := [z, TO, i1, i2]) (us := [x, y]) I (fun b hb => hf b (by
        simp only [List.mem_cons, List.not_mem_nil, or_false] at hb ⊢
        rcases hb with q | q | q | q <;> simp [q])) (fun c o hc e => by
        simp only [List.mem_cons, List.not_mem_nil, or_false, not_or] at hc
        exact sb.extBut c o hc.1 (q6 c o hc.1 hc.2.1 hc.2.2.1 hc.2.2.2 e)) (sb.extBut _ _ hT q5) (.cons rx (.cons ry .nil)) (by show 2 ≤ sizeLine; decide)
    refine ⟨.ref s.heap.objs.size, _, IX, rfl, ⟨_, vx, vy, rfl, I.hok.fresh (Nat.le_refl _), rfl, ix, iy⟩, ⟨z'', sb.extBut _ _ (Ne.symm n1) (q6 _ _ (Ne.symm n1) n5 n6 n7 hTI), ⟨x, y, sb.extBut _ _ (Ne.symm n2) q2⟩,
      A1.keep _ _ _ (c1 _ _ q3) fun o e => sb.extBut _ _ (Ne.symm n3) e, A2.keep _ _ _ (c2 _ _ q4) fun o e => sb.extBut _ _ (Ne.symm n4) e⟩, fun b hb => ?_⟩
    obtain ⟨o, ho⟩ : ∃ o, s.heap.get? b = some o := by
      simp only [List.mem_cons, List.not_mem_nil, or_false] at hb
      rcases hb with rfl | rfl | rfl | rfl | rfl
      · exact ⟨_, hz⟩
      · exact ⟨_, hTI⟩
      · exact ⟨_, hTO⟩
      · obtain ⟨o, q, _⟩ := A1.obj _ _ h1; exact ⟨o, q⟩
      · obtain ⟨o, q, _⟩ := A2.obj _ _ h2; exact ⟨o, q⟩
    rw [upd_ne (Nat.ne_of_lt (Heap.lt_size ho))]
    exact (hf b hb).1
  done := by
    intro X hP hw hK hc i pins s σ H E I hf st hg
    subst hP hw hK
    obtain ⟨hz, hTI, ⟨a, b, hTO⟩, h1, h2⟩ := st
    simp only [List.nodup_cons, List.mem_cons, List.not_mem_nil, or_false, not_or] at nd
    obtain ⟨⟨n1, n2, n3, n4⟩, ⟨n5, n6, n7⟩, ⟨n8, n9⟩, n10, _⟩ := nd
    have fz := hf z (by simp)
    have f1 := hf i1 (by simp)
    obtain ⟨fp1, m1, P1, Z1, D1, s1, e1⟩ := A1.fin X rfl hc i pins s σ H I f1.1 (FpOk.nobase I f1) h1 hg
    have oz : z ∉ fp1 := fun hm => by
      rcases e1 z hm with q | q | ⟨o, q⟩
      · exact n3 q
      · exact q fz.1
      · rw [FpOk.nobase I fz] at q; cases q
    refine pyNext_zip_end D1 oz (Ne.symm n3) rfl hz hTI s1 fun h' kp => ⟨rfl, ?_⟩
    have nit : ∀ b u, H b = some u → b ∉ [z, i1] := fun b u e q => by
      simp only [List.mem_cons, List.not_mem_nil, or_false] at q
      rcases q with rfl | rfl
      · rw [fz.1] at e; cases e
      · rw [f1.1] at e; cases e
    have kp' : ∀ c o, c ∉ [z, i1] → s.heap.get? c = some o → h'.get? c = some o := fun c o hc e => by
      simp only [List.mem_cons, List.not_mem_nil, or_false, not_or] at hc
      exact kp c o hc.1 hc.2 e
    have hch : ∀ b ∈ [z, i1], FpOk X pins H b := fun b hb => by
      simp only [List.mem_cons, List.not_mem_nil, or_false] at hb
      rcases hb with rfl | rfl
      · exact fz
      · exact f1
    refine I.step (g' := s.gens) (d' := s.drawn) (t' := s.toks) (ch := [z, i1]) (fun b hb => let ⟨_, f1, _, f3, f4, f5⟩ := hch b hb; ⟨f3, f1, f4, f5⟩) (fun b o _ _ hc e _ => kp' b o hc e) (fun b o _ _ hc e _ => ⟨o.slots, kp' b o hc e⟩) (fun _ _ _ _ n => n)
      (fun b o hc e => ⟨o, kp' b o hc e⟩) (fun _ _ e => e) (fun _ _ _ e => e) (fun b ps e => ⟨#[], by rw [e]; simp⟩) (fun m hm => ?_) (fun b u e => ?_) I.bare
    · obtain ⟨o, es, ep, ho, r⟩ := hm
      exact ⟨o, es, ep, kp' _ o (fun z => (hch _ z).2.1 rfl) ho, r⟩
    · refine (I.hok b u e).stay (fun c v hc q => kp' c v ?_ q) (fun _ q => q) fun _ _ q => q
      rcases hc with q | q
      · rw [q]; exact nit b u e
      · exact nit c _ q
  self := fun _ _ _ _ _ st h => wpAny_pyIter_zip st.1 h

/-- the records at ch have turned -/
theorem Inv.turnedAll {X : Cx} {pins : List (Addr × Obj)} {σ : L2.St} {H : Hp} {s : Shared} {h' : Heap} {tk : Nat} {ch : List Addr} (I : Inv X pins σ H s) (hch : ∀ b ∈ ch, FpOk X pins H b) (kp : ∀ c o, c ∉ ch → s.heap.get? c = some o → h'.get? c = some o) :
    Inv X pins σ H { s with heap := h', toks := tk } := by
  have nit : ∀ b u, H b = some u → b ∉ ch := fun b u e q => by rw [(hch b q).1] at e; cases e
  refine I.step (g' := s.gens) (d' := s.drawn) (ch := ch) (fun b hb => let ⟨_, f1, _, f3, f4, f5⟩ := hch b hb; ⟨f3, f1, f4, f5⟩) (fun b o _ _ hc e _ => kp b o hc e) (fun b o _ _ hc e _ => ⟨o.slots, kp b o hc e⟩) (fun _ _ _ _ n => n)
    (fun b o hc e => ⟨o, kp b o hc e⟩) (fun _ _ e => e) (fun _ _ _ e => e) (fun b ps e => ⟨#[], by rw [e]; simp⟩) (fun m hm => ?_) (fun b u e => ?_) I.bare
  · obtain ⟨o, es, ep, ho, r⟩ := hm
    exact ⟨o, es, ep, kp _ o (fun z => (hch _ z).2.1 rfl) ho, r⟩
  · refine (I.hok b u e).stay (fun c v hc q => kp c v ?_ q) (fun _ q => q) fun _ _ q => q
    rcases hc with q | q
    · rw [q]; exact nit b u e
    · exact nit c _ q
theorem turn_zip3 {P : Program} {w : World} {K : PySem.W.Frag} {elts : List Expr} {x1 : Nat} {pos : Pos} {S1 S2 S3 : Src} {z TI TO i1 i2 i3 : Addr} {t1 t2 t3 : Nat → Heap → Prop} (A1 : SrcAt S1 K i1 t1) (A2 : SrcAt S2 K i2 t2) (A3 : SrcAt S3 K i3 t3) (nd : [z, TI, TO, i1, i2, i3].Nodup) :
    Turn P w K (.Tuple elts x1 pos) (Itz3 S1 S2 S3) [z, TI, TO, i1, i2, i3] z (fun i h => IsZip h z TI TO .none ∧ IsTri h TI (.ref i1) (.ref i2) (.ref i3) ∧ (∃ a b c, IsTri h TO a b c) ∧ t1 i h ∧ t2 i h ∧ t3 i h) where
  mem := by simp
  obj := fun i h ⟨hz, hTI, ⟨a, b, c, hTO⟩, h1, h2, h3⟩ c hc => by
    simp only [List.mem_cons, List.not_mem_nil, or_false] at hc
    rcases hc with rfl | rfl | rfl | rfl | rfl | rfl
    · exact ⟨_, hz, fun v q => by cases q⟩
    · exact ⟨_, hTI, fun v q => by cases q⟩
    · exact ⟨_, hTO, fun v q => by cases q⟩
    · exact A1.obj _ _ h1
    · exact A2.obj _ _ h2
    · exact A3.obj _ _ h3
  keep := fun i h h' ⟨hz, hTI, ⟨a, b, c, hTO⟩, h1, h2, h3⟩ k => ⟨k z (by simp) _ hz, k TI (by simp) _ hTI, ⟨a, b, c, k TO (by simp) _ hTO⟩, A1.keep _ _ _ h1 fun o e => k i1 (by simp) o e, A2.keep _ _ _ h2 fun o e => k i2 (by simp) o e, A3.keep _ _ _ h3 fun o e => k i3 (by simp) o e⟩
  item := by
    intro X hP hw hK hc i pins s σ H E I hf st hg
    subst hP hw hK
    obtain ⟨hz, hTI, ⟨a, b, c0, hTO⟩, h1, h2, h3⟩ := st
    simp only [List.nodup_cons, List.mem_cons, List.not_mem_nil, or_false, not_or] at nd
    obtain ⟨⟨n1, n2, n3, n4, n11⟩, ⟨n5, n6, n7, n12⟩, ⟨n8, n9, n13⟩, ⟨n10, n14⟩, n15, _⟩ := nd
    have fz := hf z (by simp)
    have fO := hf TO (by simp)
    have f1 := hf i1 (by simp)
    have f2 := hf i2 (by simp)
    have f3 := hf i3 (by simp)
    obtain ⟨fp1, m1, P1, Z1, D1, k1, s1, c1, u1, e1⟩ := A1.draw X rfl hc i pins s σ H I f1.1 (FpOk.nobase I f1) h1 hg.1
    obtain ⟨fp2, m2, P2, Z2, D2, k2, s2, c2, u2, e2⟩ := A2.draw X rfl hc i pins s σ H I f2.1 (FpOk.nobase I f2) h2 hg.2.1
    obtain ⟨fp3, m3, P3, Z3, D3, k3, s3, c3, u3, e3⟩ := A3.draw X rfl hc i pins s σ H I f3.1 (FpOk.nobase I f3) h3 hg.2.2
    have out : ∀ {b j : Addr} {fp : List Addr}, (∀ b ∈ fp, b = j ∨ H b ≠ none ∨ ∃ o, X.base.get? b = some o) → b ≠ j → FpOk X pins H b → b ∉ fp := fun {b j fp} e hne f hm => by
      rcases e b hm with q | q | ⟨o, q⟩
      · exact hne q
      · exact q f.1
      · rw [FpOk.nobase I f] at q; cases q
    have ap : Ap3 z TI TO i1 i2 i3 fp1 fp2 fp3 := ⟨out e1 n3 fz, out e2 n4 fz, out e3 n11 fz, out e1 n8 fO, out e2 n9 fO, out e3 n13 fO, out e2 n10 f1, out e3 n14 f1, out e1 (Ne.symm n10) f2, out e3 n15 f2, out e1 (Ne.symm n14) f3, out e2 (Ne.symm n15) f3,
      Ne.symm n1, n5, n6, n7, n12, Ne.symm n2, n8, n9, n13, Ne.symm n3, Ne.symm n4, Ne.symm n11⟩
    refine pyNext_zip3_item D1 D2 D3 ap hz hTI hTO s1 s2 s3 k1 k2 k3 fun x y u h' tk p1 p2 p3 q1 q2 q3 q4 q4' q5 q6 => ⟨_, rfl, ?_⟩
    obtain ⟨vx, rx, ix⟩ := u1 x p1
    obtain ⟨vy, ry, iy⟩ := u2 y p2
    obtain ⟨vu, ru, iu⟩ := u3 u p3
    have hT : s.heap.objs.size ≠ z := Nat.ne_of_gt (Heap.lt_size hz)
    refine wpAny_letOwnedTupleGo_zip q1 fun h'' z'' sb => ?_
    have IX : Inv X pins σ (upd H s.heap.objs.size (.tup [vx, vy, vu])) { s with heap := h'', toks := tk } := Inv.drawn (ch := [z, TO, i1, i2, i3]) (us := [x, y, u]) I (fun b hb => hf b (by
        simp only [List.mem_cons, List.not_mem_nil, or_false] at hb ⊢
        rcases hb with q | q | q | q | q <;> simp [q])) (fun c o hc e => by
        simp only [List.mem_cons, List.not_mem_nil, or_false, not_or] at hc
        exact sb.extBut c o hc.1 (q6 c o hc.1 hc.2.1 hc.2.2.1 hc.2.2.2.1 hc.2.2.2.2 e)) (sb.extBut _ _ hT q5) (.cons rx (.cons ry (.cons ru .nil))) (by show 3 ≤ sizeLine; decide)
    refine ⟨.ref s.heap.objs.size, _, IX, rfl, ⟨_, vx, vy, vu, rfl, I.hok.fresh (Nat.le_refl _), rfl, ix, iy, iu⟩, ⟨z'', sb.extBut _ _ (Ne.symm n1) (q6 _ _ (Ne.symm n1) n5 n6 n7 n12 hTI), ⟨x, y, u, sb.extBut _ _ (Ne.symm n2) q2⟩,
      A1.keep _ _ _ (c1 _ _ q3) fun o e => sb.extBut _ _ (Ne.symm n3) e, A2.keep _ _ _ (c2 _ _ q4) fun o e => sb.extBut _ _ (Ne.symm n4) e, A3.keep _ _ _ (c3 _ _ q4') fun o e => sb.extBut _ _ (Ne.symm n11) e⟩, fun b hb => ?_⟩
    obtain ⟨o, ho⟩ : ∃ o, s.heap.get? b = some o := by
      simp only [List.mem_cons, List.not_mem_nil, or_false] at hb
      rcases hb with rfl | rfl | rfl | rfl | rfl | rfl
      · exact ⟨_, hz⟩
      · exact ⟨_, hTI⟩
      · exact ⟨_, hTO⟩
      · obtain ⟨o, q, _⟩ := A1.obj _ _ h1; exact ⟨o, q⟩
      · obtain ⟨o, q, _⟩ := A2.obj _ _ h2; exact ⟨o, q⟩
      · obtain ⟨o, q, _⟩ := A3.obj _ _ h3; exact ⟨o, q⟩
    rw [upd_ne (Nat.ne_of_lt (Heap.lt_size ho))]
    exact (hf b hb).1
  done := by
    intro X hP hw hK hc i pins s σ H E I hf st hg
    subst hP hw hK
    obtain ⟨hz, hTI, _, h1, h2, _⟩ := st
    simp only [List.nodup_cons, List.mem_cons, List.not_mem_nil, or_false, not_or] at nd
    obtain ⟨⟨n1, n2, n3, n4, n11⟩, _⟩ := nd
    have fz := hf z (by simp)
    have f1 := hf i1 (by simp)
    obtain ⟨fp1, m1, P1, Z1, D1, s1, e1⟩ := A1.fin X rfl hc i pins s σ H I f1.1 (FpOk.nobase I f1) h1 hg
    have oz : z ∉ fp1 := fun hm => by
      rcases e1 z hm with q | q | ⟨o, q⟩
      · exact n3 q
      · exact q fz.1
      · rw [FpOk.nobase I fz] at q; cases q
    refine pyNext_zip_end D1 oz (Ne.symm n3) rfl hz hTI s1 fun h' kp => ⟨rfl, ?_⟩
    refine Inv.turnedAll (ch := [z, i1]) (tk := s.toks) I (fun b hb => ?_) fun c o hc e => ?_
    · simp only [List.mem_cons, List.not_mem_nil, or_false] at hb
      rcases hb with rfl | rfl
      · exact fz
      · exact f1
    · simp only [List.mem_cons, List.not_mem_nil, or_false, not_or] at hc
      exact kp c o hc.1 hc.2 e
  self := fun _ _ _ _ _ st h => wpAny_pyIter_zip st.1 h

theorem turn_enum {P : Program} {w : World} {K : PySem.W.Frag} {elts : List Expr} {x1 : Nat} {pos : Pos} {S1 : Src} {e it : Addr} {t1 : Nat → Heap → Prop} (A1 : SrcAt S1 K it t1) (nd : e ≠ it) :
    Turn P w K (.Tuple elts x1 pos) (Ite S1) [e, it] e (fun i h => (∃ old, IsEnum h e it i old) ∧ t1 i h) where
  mem := by simp
  obj := fun i h ⟨⟨old, he⟩, h1⟩ c hc => by
    simp only [List.mem_cons, List.not_mem_nil, or_false] at hc
    rcases hc with rfl | rfl
    · exact ⟨_, he, fun v q => by cases q⟩
    · exact A1.obj _ _ h1
  keep := fun i h h' ⟨⟨old, he⟩, h1⟩ k => ⟨⟨old, k e (by simp) _ he⟩, A1.keep _ _ _ h1 fun o q => k it (by simp) o q⟩
  item := by
    intro X hP hw hK hc i pins s σ H E I hf st hg
    subst hP hw hK
    obtain ⟨⟨old, he⟩, h1⟩ := st
    have fe := hf e (by simp)
    have f1 := hf it (by simp)
    obtain ⟨fp1, m1, P1, Z1, D1, k1, s1, c1, u1, e1⟩ := A1.draw X rfl hc i pins s σ H I f1.1 (FpOk.nobase I f1) h1 hg
    have oe : e ∉ fp1 := fun hm => by
      rcases e1 e hm with q | q | ⟨o, q⟩
      · exact nd q
      · exact q fe.1
      · rw [FpOk.nobase I fe] at q; cases q
    refine wpAny_pyNext_enum_itemD D1 he s1 k1 nd oe fun x h' tk p1 q1 q2 q3 q4 q5 => ⟨_, rfl, ?_⟩
    obtain ⟨vx, rx, ix⟩ := u1 x p1
    have hT : s.heap.objs.size ≠ e := Nat.ne_of_gt (Heap.lt_size he)
    refine wpAny_letOwnedTupleGo_enum q1 fun h'' he'' sb => ?_
    have IX : Inv X pins σ (upd H s.heap.objs.size (.tup [.int i, vx])) { s with heap := h'', toks := tk + 1 } := Inv.drawn (ch := [e, it]) (us := [.int i tk, x]) I (fun b hb => hf b hb) (fun c o hc q => by
        simp only [List.mem_cons, List.not_mem_nil, or_false, not_or] at hc
        exact sb.extBut c o hc.1 (q5 c o hc.1 hc.2 q)) (sb.extBut _ _ hT q3) (.cons ⟨tk, rfl⟩ (.cons rx .nil)) (by show 2 ≤ sizeLine; decide)
    refine ⟨.ref s.heap.objs.size, _, IX, rfl, ⟨_, vx, rfl, I.hok.fresh (Nat.le_refl _), rfl, ix⟩, ⟨⟨x, by simpa using he''⟩, A1.keep _ _ _ (c1 _ _ q2) fun o q => sb.extBut _ _ (Ne.symm nd) q⟩, fun b hb => ?_⟩
    obtain ⟨o, ho⟩ : ∃ o, s.heap.get? b = some o := by
      simp only [List.mem_cons, List.not_mem_nil, or_false] at hb
      rcases hb with rfl | rfl
      · exact ⟨_, he⟩
      · obtain ⟨o, q, _⟩ := A1.obj _ _ h1; exact ⟨o, q⟩
    rw [upd_ne (Nat.ne_of_lt (Heap.lt_size ho))]
    exact (hf b hb).1
  done := by
    intro X hP hw hK hc i pins s σ H E I hf st hg
    subst hP hw hK
    obtain ⟨⟨old, he⟩, h1⟩ := st
    have fe := hf e (by simp)
    have f1 := hf it (by simp)
    obtain ⟨fp1, m1, P1, Z1, D1, s1, e1⟩ := A1.fin X rfl hc i pins s σ H I f1.1 (FpOk.nobase I f1) h1 hg
    refine wpAny_pyNext_enum_endD D1 he s1 fun h' kp => ⟨rfl, ?_⟩
    refine Inv.turnedAll (ch := [it]) (tk := s.toks) I (fun b hb => ?_) fun c o hc q => ?_
    · rw [List.mem_singleton.mp hb]; exact f1
    · exact kp c o (fun z => hc (by rw [z]; exact List.mem_cons_self)) q
  self := fun _ _ _ _ _ st h => let ⟨⟨_, he⟩, _⟩ := st; wpAny_pyIter_enum he h

inductive IsSrc (K : PySem.W.Frag) (H : Hp) : V → Src → Prop where
  | lst {a : Addr} {xs : List V} (h : SqL K H a xs) : IsSrc K H (.ref a) (srcL K a)
  | str (z : Str) : IsSrc K H (.str z) (srcS z)
theorem IsSrc.make {X : Cx} {pins : List (Addr × Obj)} {σ : L2.St} {H : Hp} {s : Shared} {v : V} {u : Value} {S : Src} (I : Inv X pins σ H s) (h : IsSrc X.K H v S) (r : RelV v u) :
    ∃ (o : Obj) (tn : Addr → Nat → Heap → Prop), ItMk u o s.heap ∧ o.isFreed = false ∧ (∀ it, SrcAt S X.K it (tn it)) ∧ ∀ it h, h.get? it = some o → tn it 0 h := by
  cases h with
  | lst hq =>
    cases r
    obtain ⟨its, rv, pl, hz⟩ := I.list hq
    exact ⟨_, _, itMk_list pl.isList, rfl, fun it => srcAt_list _ it, fun it h e => ⟨_, e, rfl, rfl⟩⟩
  | str z =>
    obtain ⟨t, rfl⟩ := r
    exact ⟨_, _, itMk_str, rfl, fun it => srcAt_str z t it, fun it h e => ⟨_, e, rfl, rfl⟩⟩
section
variable {X : Cx} {elts : List Expr} {x1 : Nat} {tpos : Pos}
def iZip3 (K : PySem.W.Frag) (ta : TA) : TI := fun σ H R => ta σ H fun vs H1 => ∃ v1 v2 v3 S1 S2 S3, vs = [v1, v2, v3] ∧ IsSrc K H1 v1 S1 ∧ IsSrc K H1 v2 S2 ∧ IsSrc K H1 v3 S3 ∧ R (Itz3 S1 S2 S3) H1
def iEnum (K : PySem.W.Frag) (ta : TA) : TI := fun σ H R => ta σ H fun vs H1 => ∃ a xs, vs = [.ref a] ∧ SqL K H1 a xs ∧ R (Ite (srcL K a)) H1
theorem Vals.three : ∀ {x y z : V} {us : List Value}, Vals [x, y, z] us → ∃ u v w, us = [u, v, w] ∧ RelV x u ∧ RelV y v ∧ RelV z w
  | _, _, _, _, .cons r (.cons q (.cons p .nil)) => ⟨_, _, _, rfl, r, q, p⟩
theorem pi_zip3 {a b c : Expr} {ta : TA} {p pos : Pos} (hg : Gl X "zip") (hm : X.mg "zip" = none) (ha : PA X [a, b, c] ta) (hs : starEach [a, b, c] X.env = [(false, eval a X.env), (false, eval b X.env), (false, eval c X.env)] := by rfl) (hs2 : starEach [b, c] X.env = [(false, eval b X.env), (false, eval c X.env)] := by rfl) :
    PI X (.Tuple elts x1 tpos) (.Call (.Name "zip" p) [a, b, c] [] pos) (iZip3 X.K ta) := by
  intro pins s σ H R I h
  refine Call_ (ld_blt I hg hm PyProof.Rows.boot_zip (PyProof.Rows.callWith_type1 (thn (ha pos pins s σ H _ I h) fun us s1 ⟨vs, H1, I1, r1, q1⟩ => ?_) (by rw [hs, hs2]) (by rw [hs2]; rfl)))
  obtain ⟨v1, v2, v3, S1, S2, S3, rfl, g1, g2, g3, q⟩ := q1
  obtain ⟨u1, u2, u3, rfl, ru1, ru2, ru3⟩ := Vals.three r1
  obtain ⟨o1, t1, m1, f1, A1, z1⟩ := g1.make I1 ru1
  obtain ⟨o2, t2, m2, f2, A2, z2⟩ := g2.make I1 ru2
  obtain ⟨o3, t3, m3, f3, A3, z3⟩ := g3.make I1 ru3
  refine call_zip3 m1 m2 m3 f1 f2 f3 fun h' c1 c2 c3 c4 c5 c6 kp => ?_
  refine wpAny_pyIter_zip c1 ?_
  generalize hn : s1.heap.objs.size = n at c1 c2 c3 c4 c5 c6
  refine ⟨n + 5, [n + 5, n + 3, n + 4, n, n + 1, n + 2], _, _, H1, rfl, I1.kept (t' := s1.toks) kp, turn_zip3 (A1 n) (A2 (n + 1)) (A3 (n + 2)) (by simp), ⟨c1, c2, ⟨_, _, _, c3⟩, z1 _ _ c4, z2 _ _ c5, z3 _ _ c6⟩, fun b hb => ?_, q⟩
  have hle : s1.heap.objs.size ≤ b := by
    simp only [List.mem_cons, List.not_mem_nil, or_false] at hb
    rw [hn]
    rcases hb with rfl | rfl | rfl | rfl | rfl | rfl <;> omega
  exact I1.fpOk hle (I1.hok.fresh hle)
theorem pi_enum {a : Expr} {ta : TA} {p pos : Pos} (hg : Gl X "enumerate") (hm : X.mg "enumerate" = none) (ha : PA X [a] ta) (hs : starEach [a] X.env = [(false, eval a X.env)] := by rfl) :
    PI X (.Tuple elts x1 tpos) (.Call (.Name "enumerate" p) [a] [] pos) (iEnum X.K ta) := by
  intro pins s σ H R I h
  refine Call_ (ld_blt I hg hm PyProof.Rows.boot_enumerate (PyProof.Rows.callWith_type1 (thn (ha pos pins s σ H _ I h) fun us s1 ⟨vs, H1, I1, r1, q1⟩ => ?_) hs rfl))
  obtain ⟨a', xs, rfl, hq, q⟩ := q1
  obtain ⟨u1, rfl, ru1⟩ := vals1 r1
  cases ru1
  obtain ⟨its, rv, pl, hz⟩ := I1.list hq
  refine call_enumerate_list pl.isList fun h' c1 c2 c3 kp => ?_
  refine wpAny_pyIter_enum c1 ?_
  generalize hn : s1.heap.objs.size = n at c1 c2 c3
  refine ⟨n + 1, [n + 1, n], _, _, H1, rfl, I1.kept (t' := s1.toks) kp, turn_enum (srcAt_list a' n) (Nat.succ_ne_self n), ⟨⟨_, c1⟩, c2⟩, fun b hb => ?_, q⟩
  have hle : s1.heap.objs.size ≤ b := by
    simp only [List.mem_cons, List.not_mem_nil, or_false] at hb
    rw [hn]
    rcases hb with rfl | rfl <;> omega
  exact I1.fpOk hle (I1.hok.fresh hle)
end
/-- a loop of n turns over any source -/
theorem for_it {J : It} {g : TG} {tb : TS} {D : Ends} {σ : L2.St} {H : Hp} (n : Nat) (Pv : Nat → L2.St → Hp → Prop) (h0 : Pv 0 σ H) (hgo : ∀ i σ H, i < n → Pv i σ H → J.go i H) (hst : ∀ σ H, Pv n σ H → J.stop n H)
    (hs : ∀ i σ H x H', i < n → Pv i σ H → J.yld i H x H' → g x σ H' fun σ2 H2 => tb { D with nx := Pv (i + 1), ct := Pv (i + 1), bk := D.nx } σ2 H2) (hd : ∀ σ H, Pv n σ H → D.nx σ H) :
    ∃ W : Nat → Nat → L2.St → Hp → Prop, (∃ m, W 0 m σ H) ∧ ∀ i m σ H, W i m σ H →
      (J.stop i H ∧ D.nx σ H) ∨ (J.go i H ∧ ∃ N : L2.St → Hp → Prop, (∀ σ' H', N σ' H' → ∃ m', m' < m ∧ W (i + 1) m' σ' H') ∧ ∀ x H', J.yld i H x H' → g x σ H' fun σ2 H2 => tb { D with nx := N, ct := N, bk := D.nx } σ2 H2) := by
  refine ⟨fun i m σ H => m = n - i ∧ i ≤ n ∧ Pv i σ H, ⟨n, by simp, Nat.zero_le _, h0⟩, ?_⟩
  rintro i m σ H ⟨rfl, hi, p⟩
  by_cases hlt : i < n
  · exact .inr ⟨hgo i σ H hlt p, Pv (i + 1), fun σ' H' p' => ⟨n - (i + 1), by omega, rfl, hlt, p'⟩, fun x H' y => hs i σ H x H' hlt p y⟩
  · have e : i = n := by omega
    subst e
    exact .inl ⟨hst σ H p, hd σ H p⟩
end LX
namespace TM
def gw (c : Nat) (g : Int) : Int := if g % 2 = (if c = 123 then 0 else 1) then g + 2 else g + 1
structure PS where
  nums : List Int
  found : List Int
  nest : List Int
def PS.pop (s : PS) (c : Nat) : List Int := if c = 124 ∧ 1 < s.nest.length then s.nest.dropLast else s.nest
def PS.here (s : PS) (c : Nat) : Int := (s.pop c).getLastD 0
structure PS.Ok (s : PS) : Prop where
  ne : s.nest ≠ []
  inb : ∀ n ∈ s.nest, 0 ≤ n ∧ n < (s.found.length : Int)
structure LS where
  floors : List Int
  pile : List (Int × Int)
  found : List Int
def topOf (p : List (Int × Int)) : Int × Int := p.getLastD (0, 0)
def LS.p1 (s : LS) (c : Nat) : List (Int × Int) :=
  if c = 124 ∧ 0 < (topOf s.pile).2 then s.pile.dropLast ++ [((topOf s.pile).1, (topOf s.pile).2 - 1)]
  else if c = 124 ∧ 1 < s.pile.length then s.pile.dropLast else s.pile
def flat (p : List (Int × Int)) : List Int := p.flatMap fun x => List.replicate (x.2.toNat + 1) x.1
structure Sim (s : PS) (l : LS) : Prop where
  fl : l.floors = s.found
  fo : l.found = s.nums
  ne : l.pile ≠ []
  nn : ∀ x ∈ l.pile, 0 ≤ x.2
  st : s.nest = flat l.pile
theorem split_last {α : Type} {l : List α} (h : l ≠ []) : ∃ p x, l = p ++ [x] := ⟨l.dropLast, l.getLast h, (List.dropLast_concat_getLast h).symm⟩
theorem lastD_snoc (p : List Int) (n d : Int) : (p ++ [n]).getLastD d = n := by simp
end TM
namespace TM
def next (p : Nat → Bool) : Nat → Nat → Option Nat
  | _, 0 => none
  | i, k + 1 => if p i = true then some i else next p (i + 1) k
/-- the last value of stretch m among the first i places -/
def lastV (f : Nat → Option Bool) (nm : Nat → Int) (m : Int) : Nat → Option Bool
  | 0 => none
  | i + 1 => if nm i = m ∧ (f i).isSome = true then f i else lastV f nm m i
def aheadV (f : Nat → Option Bool) (nm : Nat → Int) (ow : Int → Bool) (i : Nat) : Bool := (lastV f nm (nm i) i).getD (ow (nm i))
def figc (c : Nat) : Bool := decide (48 ≤ c) && decide (c ≤ 57)
def oddS (g : Int) : Bool := decide (¬ g % 2 = 0)

section
variable (cs : List Nat) (nums grds : List Int)
def nAt (i : Nat) : Int := nums.getD i 0
end

section
variable {cs : List Nat} {nums grds : List Int}
end
end TM
namespace LX
open PySem PySem.Spec PyProof.Rows L2
def Def (P : Program) (w : World) (K : PySem.W.Frag) (mg : Str → Option Value) (base : Heap) (x : Str) (k : Nat) (ps : List Str) (sp : Sp) : Prop :=
  ∃ f fd, FnOk P w K mg base CX0 k f fd ps sp ∧ mg x = some (.ref f) ∧ PySem.W.keepIn K (.ref f) = true ∧ Binds K fd ps []
theorem pe_def {X : Cx} {x : Str} {k : Nat} {ps : List Str} {sp : Sp} {p pos : Pos} {e : Expr} {es : List Expr} {t : TA} (D : Def X.prog X.w X.K X.mg X.base x k ps sp) (hr : Room k X.A) (ha : PA X (e :: es) t) (hg : Gl X x := by rfl)
    (hdb : (x == ("__debug__" : Str)) = false := by decide +kernel) (he : starEach (e :: es) X.env = (false, eval e X.env) :: starEach es X.env := by rfl) (hpl : (backTo pos (starEach es X.env)).any (·.1) = false := by rfl) :
    PE X (.Call (.Name x p) (e :: es) [] pos) (tCall sp [] E0 t) := by
  obtain ⟨f, fd, F, hm, hk, hb⟩ := D
  exact pe_call F hr hg hm hk hb .nil pass0 ha hdb he hpl
/-- a test that the reading decides -/
theorem tOfEq {A B : Prop} {b : Bool} (hb : b = true) (h : A) : if b = true then A else B := by rw [if_pos hb]; exact h
theorem fOfEq {A B : Prop} {b : Bool} (hb : b = false) (h : B) : if b = true then A else B := by rw [if_neg (by rw [hb]; exact Bool.false_ne_true)]; exact h
theorem bOf {A B : Prop} {b : Bool} (h1 : b = true → A) (h2 : b = false → B) : if b = true then A else B := by
  cases b
  · exact fOfEq rfl (h2 rfl)
  · exact tOfEq rfl (h1 rfl)
theorem Same.upd {H H' : Hp} {p : Addr} {o : HO} (e : Same H H') (h : H' p = Option.none) : Same H (upd H' p o) := fun b u q => by
  rw [upd_ne (ne_of_none (e b u q) h)]
  exact e b u q
theorem Same.upd0 {H : Hp} {p : Addr} {o : HO} (h : H p = Option.none) : Same H (L2.upd H p o) := Same.upd (L2.Same.refl H) h
theorem Same.updT {H H' : Hp} {p : Addr} {o : HO} (e : Same H H') (h : H p = Option.none) : Same H (L2.upd H' p o) := fun b u q => by
  rw [upd_ne (ne_of_none q h)]
  exact e b u q

def ch (c : Nat) : V := .str ⟨#[c]⟩
end LX
namespace LX
open PySem PySem.Spec PyProof.Rows L2
/-- the built-in names that the text leaves alone -/
structure Blt (mg : Str → Option Value) : Prop where
  len : mg "len" = none
  range : mg "range" = none
  list : mg "list" = none
  isinstance : mg "isinstance" = none
  str : mg "str" = none
  int : mg "int" = none
  bool : mg "bool" = none
  zip : mg "zip" = none
  enumerate : mg "enumerate" = none
  reversed : mg "reversed" = none
def spCell (K : PySem.W.Frag) : Sp := fun vs H Q _ => ∃ (a : Addr) (ns : List Int) (k : Int), vs = [.ref a, .int k] ∧ SqL K H a (ns.map V.int) ∧ 0 ≤ k ∧ Q (.int (ns.getD k.toNat 0)) H
def spLaw (K : PySem.W.Frag) : Sp := fun vs H Q _ => ∃ (a : Addr) (ns : List Int), vs = [.ref a] ∧ SqL K H a (ns.map V.int) ∧ ns.length ≤ 63 ∧ ∀ H', Q (.bl true) H'
/-- the law's head, from the law's promise -/
theorem walk_law {l : PySem.W.OpenLaw} {q : Program} {loose : List Str} {XP : (Str → Option Value) → Heap → Prop} {YP : World → Heap → Prop} {d : DefRec} {K : Params → PySem.W.Frag} {k : Nat} (hn : l.most = some 63) (hdf : d.params.defaults = []) (hr : Room k callerA)
    (hY : ∀ (w : World) (h : Heap), YP w h → (K w.params).In h)
    (F : ∀ (w : World) (mg : Str → Option Value) (fa : Addr) (h : Heap), (K w.params).In h → h.Ns mainGlobals mg → mg d.name = some (.ref fa) →
      ∃ fd : FuncData, (∀ (s : Shared) (u : Value), BindsTo s fd ⟨[u], []⟩ [("script", u)]) ∧ ∀ base : Heap, (K w.params).In base → base.Ns mainGlobals mg → FnOk l.prog w (K w.params) mg base CX0 k fa fd ["script"] (spLaw (K w.params))) :
    PySem.W.WalkO q loose XP YP l.row.toRowW d [] (fun f vs => PySem.call f vs) :=
  L2.walk_of (n := 63) (k := k) (x := "script") (CX := fun _ => CX0) (sp := fun w => spLaw (K w.params)) hn (by decide) hdf hr hY F (fun _ _ a ns hl _ hS => ⟨a, ns, rfl, hS, hl, fun _ => rfl⟩) fun _ _ _ _ _ z => z
end LX
namespace LX
open PySem PySem.Spec PyProof.Rows L2 TM
/-- a join point between two statements -/
theorem seq_mid {t u : TS} {D : Ends} {σ : L2.St} {H : Hp} (Mid : L2.St → Hp → Prop) (h1 : ∀ D' : Ends, D'.rt = D.rt → D'.bk = D.bk → D'.ct = D.ct → (∀ σ H, Mid σ H → D'.nx σ H) → t D' σ H) (h2 : ∀ σ H, Mid σ H → u D σ H) : tSeq t u D σ H :=
  h1 { D with nx := u D } rfl rfl rfl h2
abbrev vI (l : List Int) : List V := l.map V.int
theorem ints_snoc (l : List Int) (n : Int) : vI l ++ [V.int n] = vI (l ++ [n]) := by simp [vI]
theorem ints_len (l : List Int) : (vI l).length = l.length := by simp [vI]
theorem ints_at {l : List Int} {n : Int} (h0 : 0 ≤ n) (h1 : n < (l.length : Int)) : atI (vI l) n = some (V.int (l.getD n.toNat 0)) := by
  obtain ⟨k, rfl⟩ := Int.eq_ofNat_of_zero_le h0
  have hk : k < l.length := by omega
  rw [Int.toNat_natCast]
  refine atI_nat ?_
  rw [List.getElem?_map, List.getElem?_eq_getElem hk, List.getD_eq_getElem?_getD, List.getElem?_eq_getElem hk]
  rfl
theorem ints_last {l : List Int} (h : l ≠ []) : atI (vI l) (-1) = some (V.int (l.getLastD 0)) := by
  obtain ⟨p, x, rfl⟩ := split_last h
  rw [← ints_snoc, atI_last, lastD_snoc]
theorem ints_get {l : List Int} {i : Nat} {x : V} (h : (vI l)[i]? = some x) : ∃ n, l[i]? = some n ∧ x = V.int n := by
  rw [List.getElem?_map] at h
  cases e : l[i]? with
  | none => rw [e] at h; cases h
  | some n => rw [e] at h; exact ⟨n, rfl, (Option.some.inj h).symm⟩
theorem take_snoc {α : Type} {l : List α} {i : Nat} {c : α} (h : l[i]? = some c) : l.take (i + 1) = l.take i ++ [c] := by
  rw [List.take_add_one, h]
  rfl
theorem le_line {n : Nat} (h : n ≤ 1000) : n ≤ sizeLine := Nat.le_of_lt (small1000 h)
def cps (z : Str) : List Nat := z.cps.toList
def spPick (K : PySem.W.Frag) : Sp := fun vs H Q _ => ∃ (a : Addr) (ns : List Int) (k : Int), vs = [.ref a, .int k] ∧ SqL K H a (ns.map V.int) ∧ 0 ≤ k ∧ ∀ n, Q (.int n) H
def spWhole : Sp := fun vs H Q _ => ∃ n : Int, vs = [.int n] ∧ Q (.bl true) H
def spMix : Sp := fun vs H Q _ => ∃ a b : Int, vs = [.int a, .int b] ∧ ∀ n, Q (.int n) H
def low (z : Str) : Prop := ∀ c ∈ cps z, c < 127
def spSize : Sp := fun vs H Q _ => ∃ a : Int, vs = [.int a] ∧ ∀ n : Int, 0 ≤ n → n ≤ 60 → Q (.int n) H
def spList (K : PySem.W.Frag) : Sp := fun vs H Q _ => ∃ (p q : Addr) (ns : List Int), vs = [.ref p, .ref q] ∧ H p = some (.lst (vI ns)) ∧ SqL K H q (vI ns) ∧ ns.length ≤ 1000 ∧ Q (.bl true) H
end LX
namespace LX
open PySem PySem.Spec PyProof.Rows L2 TM
theorem kit_int_bool (K : PySem.W.Frag) : PySem.W.kitOne K (.type "int") (.type "bool") = some false := by
  unfold PySem.W.kitOne PySem.W.kitCls
  first | rfl | (with_unfolding_all rfl)
@[irreducible] def QS (X : Cx) (st : Stmt) (t : TS) : Prop := PS X st t
@[irreducible] def QSs (X : Cx) (sts : List Stmt) (t : TS) : Prop := PSs X sts t
theorem QS.of {X : Cx} {st : Stmt} {t : TS} (h : PS X st t) : QS X st t := by unfold QS; exact h
theorem QSs.out {X : Cx} {sts : List Stmt} {t : TS} (h : QSs X sts t) : PSs X sts t := by unfold QSs at h; exact h
def PileAt (H : Hp) (as : List Addr) (ps : List (Int × Int)) : Prop := Paired (fun (a : Addr) (x : Int × Int) => H a = some (.lst [.int x.1, .int x.2])) as ps
theorem PileAt.len {H : Hp} {as : List Addr} {ps : List (Int × Int)} (h : PileAt H as ps) : as.length = ps.length := Paired.length h
theorem PileAt.keep {H H' : Hp} {as : List Addr} {ps : List (Int × Int)} (h : PileAt H as ps) (k : ∀ a ∈ as, H' a = H a) : PileAt H' as ps := by
  induction h with
  | nil => exact .nil
  | cons r t ih => exact .cons (by rw [k _ List.mem_cons_self]; exact r) (ih fun a ha => k a (List.mem_cons_of_mem _ ha))
theorem PileAt.snoc {H : Hp} {as : List Addr} {ps : List (Int × Int)} {a : Addr} {x : Int × Int} (h : PileAt H as ps) (e : H a = some (.lst [.int x.1, .int x.2])) : PileAt H (as ++ [a]) (ps ++ [x]) := by
  induction h with
  | nil => exact .cons e .nil
  | cons r t ih => exact .cons r ih
theorem PileAt.last {H : Hp} {as : List Addr} {ps : List (Int × Int)} (h : PileAt H as ps) (ne : ps ≠ []) : ∃ bs a qs x, as = bs ++ [a] ∧ ps = qs ++ [x] ∧ PileAt H bs qs ∧ H a = some (.lst [.int x.1, .int x.2]) := by
  induction h with
  | nil => exact absurd rfl ne
  | @cons a x as ps r t ih =>
    cases t with
    | nil => exact ⟨[], a, [], x, rfl, rfl, .nil, r⟩
    | cons r' t' =>
      obtain ⟨bs, a', qs, x', e1, e2, h1, h2⟩ := ih (by simp)
      exact ⟨a :: bs, a', x :: qs, x', by rw [e1]; rfl, by rw [e2]; rfl, .cons r h1, h2⟩
theorem PileAt.there {H : Hp} {as : List Addr} {ps : List (Int × Int)} (h : PileAt H as ps) : ∀ a ∈ as, ∃ o, H a = some o := by
  induction h with
  | nil => intro a ha; cases ha
  | cons r t ih =>
    intro a ha
    rcases List.mem_cons.mp ha with rfl | ha
    · exact ⟨_, r⟩
    · exact ih a ha
end LX
namespace LX
open PySem PySem.Spec PyProof.Rows L2 TM
theorem getD_set {l : List Bool} {j k : Nat} {b : Bool} (hj : j < l.length) : (l.set j b).getD k false = if k = j then b else l.getD k false := by
  rw [List.getD_eq_getElem?_getD, List.getElem?_set]
  by_cases h : j = k
  · subst h; rw [if_pos rfl, if_pos hj, if_pos rfl]; rfl
  · rw [if_neg h, if_neg (fun z => h z.symm), List.getD_eq_getElem?_getD]
def owL (l : List Bool) (m : Int) : Bool := l.getD m.toNat false
/-- the latest sides, after i places -/
def LatOk (f : Nat → Option Bool) (nm : Nat → Int) (ow : List Bool) (i : Nat) (lat : List Bool) : Prop :=
  lat.length = ow.length ∧ ∀ k : Nat, k < ow.length → lat.getD k false = (lastV f nm (k : Int) i).getD (owL ow k)
theorem LatOk.zero (f : Nat → Option Bool) (nm : Nat → Int) (ow : List Bool) : LatOk f nm ow 0 ow := ⟨rfl, fun k _ => by unfold lastV owL; rw [Int.toNat_natCast]; rfl⟩
theorem LatOk.read {f : Nat → Option Bool} {nm : Nat → Int} {ow lat : List Bool} {i : Nat} (h : LatOk f nm ow i lat) (h0 : 0 ≤ nm i) (h1 : nm i < (ow.length : Int)) : lat.getD (nm i).toNat false = aheadV f nm (owL ow) i := by
  have := h.2 (nm i).toNat (by omega)
  unfold aheadV
  rw [this]
  have e : ((nm i).toNat : Int) = nm i := by omega
  rw [e]
theorem LatOk.put {f : Nat → Option Bool} {nm : Nat → Int} {ow lat : List Bool} {i : Nat} {b : Bool} (h : LatOk f nm ow i lat) (hn : f i = some b) (h0 : 0 ≤ nm i) (h1 : nm i < (ow.length : Int)) : LatOk f nm ow (i + 1) (lat.set (nm i).toNat b) := ⟨by rw [List.length_set]; exact h.1, fun k hk => by
  rw [getD_set (by rw [h.1]; omega)]
  unfold lastV
  by_cases e : k = (nm i).toNat
  · rw [if_pos e, if_pos ⟨by omega, by rw [hn]; rfl⟩, hn]
    first | done | rfl
  · rw [if_neg e, if_neg (fun z => e (by omega)), h.2 k hk]⟩
structure Told (z : Str) (b : Int) (nums grds : List Int) : Prop where
  ln : nums.length = z.length
  inb : ∀ i, i < z.length → 0 ≤ nAt nums i ∧ nAt nums i < (grds.length : Int)
  gl : grds.length ≤ 1 + z.length
def lv (c : Nat) (b : Bool) (g : Int) : Int := if figc c = true then (if b = oddS g then g else g + 1) + (if b = oddS g then g else g + 1) % 2 else (if b = oddS g then g else g + 1)
end LX
namespace LX
open PySem PySem.Spec PyProof.Rows L2 TM
/-- the tuple told: the stretch of each sign, the ground of each stretch -/
structure ToldAt (H : Hp) (p : Addr) (nums grds : List Int) : Prop where
  ex : ∃ q r : Addr, H p = some (.tup [.ref q, .ref r]) ∧ H q = some (.lst (vI nums)) ∧ H r = some (.lst (vI grds))
theorem ToldAt.same {H H' : Hp} {p : Addr} {nums grds : List Int} (h : ToldAt H p nums grds) (s : Same H H') : ToldAt H' p nums grds := by
  obtain ⟨q, r, a, b, c⟩ := h.ex
  exact ⟨q, r, s _ _ a, s _ _ b, s _ _ c⟩
end LX
namespace LX
open PySem PySem.Spec PyProof.Rows L2
section
variable {X : Cx}
theorem PE.imp {e : Expr} {t t' : TE} (h : PE X e t) (i : ∀ σ H Q, t' σ H Q → t σ H Q) : PE X e t' := fun pins s σ H Q I q => h pins s σ H Q I (i σ H Q q)
theorem call_range1 : CallR X (.type "range") (fun xs H Q => ∃ j : Int, xs = [.int j] ∧ ∀ p, H p = none → Q (.ref p) (upd H p (.rng 0 j))) := by
  intro pins s σ H xs us Q I r h
  obtain ⟨j, rfl, q⟩ := h
  obtain ⟨u, rfl, t, rfl⟩ := vals1 r
  refine call_range_1 ?_
  exact ⟨.ref s.heap.objs.size, _, I.laid (t' := _) (fun b o e => Heap.get?_push_of_some _ e) (Nat.le_refl _) (show ObjOk X.prog X.w _ _ _ (.rng 0 j) from ⟨_, _, _, Heap.get?_push_size _ rfl⟩), rfl, q _ (I.hok.fresh (Nat.le_refl _))⟩
theorem call_range2 : CallR X (.type "range") (fun xs H Q => ∃ i j : Int, xs = [.int i, .int j] ∧ ∀ p, H p = none → Q (.ref p) (upd H p (.rng i j))) := by
  intro pins s σ H xs us Q I r h
  obtain ⟨i, j, rfl, q⟩ := h
  obtain ⟨u, w', rfl, ⟨t, rfl⟩, ⟨t', rfl⟩⟩ := vals2 r
  refine call_range_2 ?_
  exact ⟨.ref s.heap.objs.size, _, I.laid (t' := _) (fun b o e => Heap.get?_push_of_some _ e) (Nat.le_refl _) (show ObjOk X.prog X.w _ _ _ (.rng i j) from ⟨_, _, _, Heap.get?_push_size _ rfl⟩), rfl, q _ (I.hok.fresh (Nat.le_refl _))⟩
def iota (lo : Int) (n : Nat) : List Int := (List.range n).map fun i : Nat => lo + (i : Int)
theorem iota_len (lo : Int) (n : Nat) : (iota lo n).length = n := by simp [iota]
theorem vals_of_get : ∀ {ns : List Int} {vs : List Value}, vs.length = ns.length → (∀ (i : Nat) v, vs[i]? = some v → ∃ n t, ns[i]? = some n ∧ v = Value.int n t) → Vals (ns.map V.int) vs
  | [], [], _, _ => .nil
  | n :: ns, v :: vs, hl, h => by
    obtain ⟨m, t, e, e'⟩ := h 0 v rfl
    cases e
    refine .cons ⟨t, e'⟩ (vals_of_get (by simpa using hl) fun i u hu => ?_)
    exact h (i + 1) u hu
  | [], _ :: _, hl, _ => by simp at hl
  | _ :: _, [], hl, _ => by simp at hl
theorem call_list_rng (hc : X.calm = true) : CallR X (.type "list") (fun xs H Q => ∃ (p : Addr) (lo hi : Int) (n : Nat), xs = [.ref p] ∧ H p = some (.rng lo hi) ∧ -(2 ^ 62) ≤ lo ∧ hi < 2 ^ 62 ∧ hi = lo + n ∧ n ≤ 1000 ∧ ∀ l, H l = none → Q (.ref l) (upd H l (.lst ((iota lo n).map V.int)))) := by
  intro pins s σ H xs us Q I r h
  obtain ⟨p, lo, hi, n, rfl, hp, h1, h2, h3, h4, q⟩ := h
  obtain ⟨u, rfl, rx⟩ := vals1 r
  cases rx
  obtain ⟨t, u, v, hg⟩ := I.hok _ _ hp
  refine call_list_range (n := n) (I.ok.hd hc) hg (small_one h1 (by omega) (by omega) h2) (by rw [rangeSize_one]; split <;> omega) (by omega) fun h' tk acc' c' kp e hacc => ?_
  have hv : Vals ((iota lo n).map V.int) acc'.toList := vals_of_get (by rw [Array.length_toList, hacc.1, iota_len]) fun i v hv => by
    have hv' : acc'[i]? = some v := by rw [← hv]; simp
    obtain ⟨tk, e⟩ := hacc.2 i v hv'
    have hi : i < n := by
      have := (Array.getElem?_eq_some_iff.mp hv').1
      rw [hacc.1] at this; exact this
    refine ⟨lo + (i : Int), tk, by simp [iota, hi], by simpa using e⟩
  refine ⟨.ref s.heap.objs.size, _, I.laid (t' := tk) kp (Nat.le_refl _) (show ObjOk X.prog X.w _ h' _ (.lst ((iota lo n).map V.int)) from ⟨?_, acc'.toList, c', hv, by simpa using e⟩), rfl, q _ (I.hok.fresh (Nat.le_refl _))⟩
  rw [List.length_map, iota_len]
  exact Nat.le_of_lt (small1000 h4)
theorem Inv.listI {pins : List (Addr × Obj)} {σ : L2.St} {H : Hp} {s : Shared} {p : Addr} {ns : List Int} (I : L2.Inv X pins σ H s) (h : SqL X.K H p (ns.map V.int)) : ∃ its, IntsAre its ns ∧ s.heap.IsList p its.toArray ∧ its.length = ns.length := by
  obtain ⟨its, r, pl, hz⟩ := I.list h
  have e := r.length
  rw [List.length_map] at e
  exact ⟨its, intsAre_of r, pl.isList, e.symm⟩
theorem call_sorted : CallR X (.builtin "sorted") (fun xs H Q => ∃ (p : Addr) (ns : List Int), xs = [.ref p] ∧ SqL X.K H p (ns.map V.int) ∧ ns.length < 64 ∧ ∀ (ns' : List Int) (l : Addr), ns'.Perm ns → ns'.Pairwise (· ≤ ·) → H l = none → Q (.ref l) (upd H l (.lst (ns'.map V.int)))) := by
  intro pins s σ H xs us Q I r h
  obtain ⟨p, ns, rfl, hp, hn, q⟩ := h
  obtain ⟨u, rfl, rx⟩ := vals1 r
  cases rx
  obtain ⟨its, hi, hl, e⟩ := Inv.listI I hp
  refine sorted_ints hl hi (by omega) fun out ns' a1 a2 a3 => ?_
  obtain ⟨c, hc⟩ := sortedAll_at s.heap its out
  have hz : (ns'.map V.int).length ≤ sizeLine := by
    rw [List.length_map, a2.length_eq]
    exact Nat.le_of_lt (small1000 (by omega))
  refine ⟨.ref (s.heap.objs.size + 1), _, I.laid (t' := s.toks) (fun _ _ => sortedAll_old) (Nat.le_succ _) (show ObjOk X.prog X.w _ _ _ (.lst (ns'.map V.int)) from ⟨hz, out.toList, c, vals_ints a1, by simpa using hc⟩), rfl, q ns' _ a2 a3 (I.hok.fresh (Nat.le_succ _))⟩
end
end LX
namespace TM
section
variable {α β : Type}
def blk (q : α → Bool) (F : List α → List α) : List α → List α → List α
  | acc, [] => F acc
  | acc, p :: ps => bif q p then blk q F (acc ++ [p]) ps else F acc ++ p :: blk q F [] ps
def blocks (q : α → Bool) (F : List α → List α) (ps : List α) : List α := blk q F [] ps
theorem blk_run {q : α → Bool} {F : List α → List α} : ∀ {xs : List α} (acc ys : List α), (∀ x ∈ xs, q x = true) → blk q F acc (xs ++ ys) = blk q F (acc ++ xs) ys
  | [], acc, ys, _ => by simp
  | x :: xs, acc, ys, h => by
    have h1 := h x (by simp)
    have e : blk q F acc (x :: (xs ++ ys)) = bif q x then blk q F (acc ++ [x]) (xs ++ ys) else F acc ++ x :: blk q F [] (xs ++ ys) := by rw [blk]
    show blk q F acc (x :: (xs ++ ys)) = _
    rw [e, h1, cond_true, blk_run (acc ++ [x]) ys (fun y hy => h y (by simp [hy]))]
    simp
theorem blk_cut {q : α → Bool} {F : List α → List α} {p : α} (hp : q p = false) : ∀ (xs acc ys : List α), blk q F acc (xs ++ p :: ys) = blk q F acc xs ++ p :: blk q F [] ys
  | [], acc, ys => by
    have e : blk q F acc (p :: ys) = bif q p then blk q F (acc ++ [p]) ys else F acc ++ p :: blk q F [] ys := by rw [blk]
    show blk q F acc (p :: ys) = _
    rw [e, hp, cond_false, blk]
  | x :: xs, acc, ys => by
    show blk q F acc (x :: (xs ++ p :: ys)) = _
    rw [blk, blk]
    cases q x with
    | true => simp only [cond_true]; exact blk_cut hp xs _ _
    | false => simp only [cond_false]; rw [blk_cut hp xs [] ys]; simp
theorem blocks_all {q : α → Bool} {F : List α → List α} {xs : List α} (h : ∀ x ∈ xs, q x = true) : blocks q F xs = F xs := by
  have := blk_run (F := F) [] [] h
  simp only [List.append_nil, List.nil_append] at this
  unfold blocks
  rw [this, blk]
theorem blocks_cut {q : α → Bool} {F : List α → List α} {p : α} (hp : q p = false) (xs ys : List α) : blocks q F (xs ++ p :: ys) = blocks q F xs ++ p :: blocks q F ys := blk_cut hp xs [] ys
theorem blocks_step {q : α → Bool} {F : List α → List α} {p : α} {xs : List α} (h : ∀ x ∈ xs, q x = true) (hp : q p = false) (ys : List α) : blocks q F (xs ++ p :: ys) = F xs ++ p :: blocks q F ys := by
  rw [blocks_cut hp, blocks_all h]
/-- each list is a row that keeps q, or such a row, one that does not, and a shorter list -/
theorem dec_ind (q : α → Bool) {m : List α → Prop} (h1 : ∀ xs, (∀ x ∈ xs, q x = true) → m xs) (h2 : ∀ xs p ys, (∀ x ∈ xs, q x = true) → q p = false → m ys → m (xs ++ p :: ys)) : ∀ ps, m ps := by
  intro ps
  have key : ∀ (ps acc : List α), (∀ x ∈ acc, q x = true) → m (acc ++ ps) := by
    intro ps
    induction ps with
    | nil => intro acc h; rw [List.append_nil]; exact h1 acc h
    | cons p ps ih =>
      intro acc h
      cases hp : q p with
      | true =>
        have := ih (acc ++ [p]) (by
          intro x hx
          rcases List.mem_append.mp hx with hx | hx
          · exact h x hx
          · rw [List.mem_singleton.mp hx]; exact hp)
        rw [List.append_assoc] at this
        exact this
      | false => exact h2 acc p ps h hp (ih [] (by simp))
  exact key ps [] (by simp)
theorem blocks_perm {q : α → Bool} {F : List α → List α} (hF : ∀ xs, (F xs).Perm xs) : ∀ ps, (blocks q F ps).Perm ps := by
  refine dec_ind q (fun xs h => ?_) (fun xs p ys h hp ih => ?_)
  · rw [blocks_all h]; exact hF xs
  · rw [blocks_step h hp]; exact (hF xs).append (ih.cons p)
theorem blocks_congr {q : α → Bool} {F G : List α → List α} : ∀ ps, (∀ xs, (∀ x ∈ xs, q x = true) → (∀ x ∈ xs, x ∈ ps) → F xs = G xs) → blocks q F ps = blocks q G ps := by
  refine dec_ind q (fun xs h e => ?_) (fun xs p ys h hp ih e => ?_)
  · rw [blocks_all h, blocks_all h]; exact e xs h (fun _ hx => hx)
  · rw [blocks_step h hp, blocks_step h hp, e xs h (fun _ hx => by simp [hx]), ih (fun zs hz hz' => e zs hz (fun x hx => by simp [hz' x hx]))]
theorem blocks_map {g : α → β} {q : β → Bool} {F : List β → List β} {G : List α → List α} (e : ∀ xs, F (xs.map g) = (G xs).map g) : ∀ ps, blocks q F (ps.map g) = (blocks (fun a => q (g a)) G ps).map g := by
  refine dec_ind (fun a => q (g a)) (fun xs h => ?_) (fun xs p ys h hp ih => ?_)
  · rw [blocks_all h, blocks_all, e]
    intro y hy
    obtain ⟨x, hx, rfl⟩ := List.mem_map.mp hy
    exact h x hx
  · have h' : (xs ++ p :: ys).map g = xs.map g ++ g p :: ys.map g := by simp
    rw [h', blocks_step h hp, blocks_step (fun y hy => by
      obtain ⟨x, hx, rfl⟩ := List.mem_map.mp hy
      exact h x hx) hp, ih, e]
    simp
theorem blocks_q {q q' : α → Bool} {F : List α → List α} (ps : List α) (e : ∀ x ∈ ps, q x = q' x) : blocks q F ps = blocks q' F ps := by
  have key : ∀ (ps acc : List α), (∀ x ∈ ps, q x = q' x) → blk q F acc ps = blk q' F acc ps := by
    intro ps
    induction ps with
    | nil => intro acc _; rw [blk, blk]
    | cons p ps ih =>
      intro acc e
      rw [blk, blk, e p (by simp), ih _ (fun x hx => e x (by simp [hx])), ih _ (fun x hx => e x (by simp [hx]))]
  exact key ps [] e
def ord (lv : α → Int) : Nat → Int → List α → List α
  | 0, _, ps => ps
  | f + 1, l, ps => blocks (fun p => decide (l < lv p)) (fun xs => (ord lv f (l + 1) xs).reverse) ps
theorem ord_perm {lv : α → Int} : ∀ (f : Nat) (l : Int) (ps : List α), (ord lv f l ps).Perm ps
  | 0, _, ps => List.Perm.refl ps
  | f + 1, l, ps => blocks_perm (fun xs => (List.reverse_perm _).trans (ord_perm f (l + 1) xs)) ps
theorem ord_nil {lv : α → Int} (f : Nat) (l : Int) : ord lv f l [] = [] := (ord_perm f l []).eq_nil
theorem ord_cut {lv : α → Int} {p : α} {l : Int} (hp : lv p ≤ l) : ∀ (f : Nat) (xs ys : List α), ord lv f l (xs ++ p :: ys) = ord lv f l xs ++ p :: ord lv f l ys
  | 0, _, _ => rfl
  | f + 1, xs, ys => blocks_cut (by simp; omega) xs ys
theorem ord_step {lv : α → Int} {l : Int} {f : Nat} {xs : List α} (h : ∀ x ∈ xs, l < lv x) : ord lv (f + 1) l xs = (ord lv f (l + 1) xs).reverse := blocks_all (fun x hx => by simp [h x hx])
theorem ord_low {lv : α → Int} : ∀ (f : Nat) (l : Int) (ps : List α), (∀ p ∈ ps, lv p ≤ l) → ord lv f l ps = ps
  | 0, _, _, _ => rfl
  | f + 1, l, [], _ => ord_nil _ _
  | f + 1, l, p :: ps, h => by
    have := ord_cut (h p (by simp)) (f + 1) [] ps
    rw [List.nil_append, ord_nil, List.nil_append] at this
    rw [this, ord_low (f + 1) l ps (fun x hx => h x (by simp [hx]))]
/-- one turn more changes nothing where no level is left -/
theorem ord_more {lv : α → Int} : ∀ (f : Nat) (l : Int) (ps : List α), (∀ p ∈ ps, lv p ≤ l + f) → ord lv (f + 1) l ps = ord lv f l ps
  | 0, l, ps, h => ord_low 1 l ps (fun p hp => by have := h p hp; simpa using this)
  | f + 1, l, ps, h => by
    show blocks _ _ ps = blocks _ _ ps
    refine blocks_congr ps (fun xs _ hx => ?_)
    show (ord lv (f + 1) (l + 1) xs).reverse = (ord lv f (l + 1) xs).reverse
    rw [ord_more f (l + 1) xs (fun p hp => by have := h p (hx p hp); omega)]
theorem ord_fuel {lv : α → Int} {l : Int} {ps : List α} {f : Nat} (h : ∀ p ∈ ps, lv p ≤ l + f) : ∀ g, f ≤ g → ord lv g l ps = ord lv f l ps := by
  intro g hg
  induction g with
  | zero => rw [Nat.le_zero.mp hg]
  | succ g ih =>
    rcases Nat.lt_or_ge g f with q | q
    · have : g + 1 = f := by omega
      rw [this]
    · rw [ord_more g l ps (fun p hp => by have := h p hp; omega), ih q]
theorem ord_map {lv : β → Int} {g : α → β} : ∀ (f : Nat) (l : Int) (ps : List α), ord lv f l (ps.map g) = (ord (fun a => lv (g a)) f l ps).map g
  | 0, _, _ => rfl
  | f + 1, l, ps => blocks_map (fun xs => by rw [ord_map f (l + 1) xs, List.map_reverse]) ps
theorem ord_lv {lv lv' : α → Int} : ∀ (f : Nat) (l : Int) (ps : List α), (∀ p ∈ ps, lv p = lv' p) → ord lv f l ps = ord lv' f l ps
  | 0, _, _, _ => rfl
  | f + 1, l, ps, h => by
    show blocks _ _ ps = blocks _ _ ps
    rw [blocks_q ps (q' := fun p => decide (l < lv' p)) (fun x hx => by rw [h x hx])]
    exact blocks_congr ps (fun xs _ hx => by rw [ord_lv f (l + 1) xs (fun p hp => h p (hx p hp))])
def turn (lv : α → Int) (L : Int) (ps : List α) : List α := blocks (fun p => decide (L ≤ lv p)) List.reverse ps
def turns (lv : α → Int) : Nat → Int → List α → List α
  | 0, _, ps => ps
  | f + 1, l, ps => turn lv (l + 1) (turns lv f (l + 1) ps)
theorem turn_ord {lv : α → Int} {f : Nat} {l : Int} : ∀ ps, turn lv (l + 1) (ord lv f (l + 1) ps) = ord lv (f + 1) l ps := by
  have hq : (fun p => decide (l + 1 ≤ lv p)) = fun p => decide (l < lv p) := by funext p; exact decide_eq_decide.mpr (by omega)
  unfold turn
  rw [hq]
  have ho : ∀ ps, ord lv (f + 1) l ps = blocks (fun p => decide (l < lv p)) (fun xs => (ord lv f (l + 1) xs).reverse) ps := fun _ => rfl
  refine dec_ind (fun p => decide (l < lv p)) (fun xs h => ?_) (fun xs p ys h hp ih => ?_)
  · rw [ho, blocks_all (q := fun p => decide (l < lv p)) h, blocks_all (q := fun p => decide (l < lv p)) (fun x hx => h x ((ord_perm f (l + 1) xs).mem_iff.mp hx))]
  · have hp' : lv p ≤ l + 1 := by have := of_decide_eq_false hp; omega
    rw [ho, ord_cut hp', blocks_step (q := fun p => decide (l < lv p)) h hp, blocks_step (q := fun p => decide (l < lv p)) (fun x hx => h x ((ord_perm f (l + 1) xs).mem_iff.mp hx)) hp, ih, ho]
theorem revPerm {lv : α → Int} (f : Nat) (l : Int) (xs : List α) : ((ord lv f l xs).reverse).Perm xs := (List.reverse_perm _).trans (ord_perm f l xs)
end
end TM
namespace LX
open PySem PySem.Spec PyProof.Rows L2 TM
/-- more built-in names that the text leaves alone -/
structure BltB (mg : Str → Option Value) : Prop where
  min : mg "min" = none
  max : mg "max" = none
  sorted : mg "sorted" = none
  all : mg "all" = none
  set : mg "set" = none
  tuple : mg "tuple" = none
  any : mg "any" = none
  sum : mg "sum" = none
/-- a row as the law draws it -/
structure RowOk (row : List Int) : Prop where
  len : row.length ≤ 60
  lo : ∀ x ∈ row, 0 ≤ x
  hi : ∀ x ∈ row, x ≤ 9
def spRow (K : PySem.W.Frag) : Sp := fun vs H Q _ => ∃ (a : Addr) (ns : List Int) (st n way : Int), vs = [.ref a, .int st, .int n, .int way] ∧ SqL K H a (ns.map V.int) ∧ 0 ≤ st ∧ 0 ≤ n ∧ n ≤ 60 ∧
  ∀ (row : List Int) (p : Addr) (H' : Hp), RowOk row → (row.length : Int) = n → Same H H' → H p = none → H' p = some (.lst (vI row)) → Q (.ref p) H'
abbrev vN (l : List Nat) : List V := l.map fun n : Nat => V.int (n : Int)
theorem vN_vI (l : List Nat) : vN l = vI (l.map fun n : Nat => (n : Int)) := by simp [vN, vI]
theorem vN_len (l : List Nat) : (vN l).length = l.length := by simp [vN]
theorem vN_snoc (l : List Nat) (n : Nat) : vN l ++ [V.int (n : Int)] = vN (l ++ [n]) := by simp [vN]
theorem vN_app (l m : List Nat) : vN l ++ vN m = vN (l ++ m) := by simp [vN]
theorem vN_rev (l : List Nat) : (vN l).reverse = vN l.reverse := by simp [vN]
theorem vN_at {l : List Nat} {i : Nat} (h : i < l.length) : atI (vN l) (i : Int) = some (V.int ((l[i] : Nat) : Int)) := by
  refine atI_nat ?_
  rw [List.getElem?_map, List.getElem?_eq_getElem h]
  rfl
theorem vN_cut (l : List Nat) (i j : Nat) : cutV (vN l) (some (i : Int)) (some (j : Int)) = vN ((l.drop (min i l.length)).take (min j l.length - min i l.length)) := by
  unfold cutV
  rw [HT.sIx_nat, HT.sIx_nat, vN_len]
  show ((l.map _).drop _).take _ = _
  rw [← List.map_drop, ← List.map_take]
def lvl (row : List Int) (p : Nat) : Int := row.getD p 0
theorem lvl_le {row : List Int} (h : RowOk row) (p : Nat) : lvl row p ≤ 9 := by
  unfold lvl
  rw [List.getD_eq_getElem?_getD]
  cases e : row[p]? with
  | none => simp
  | some x => exact h.hi x (List.mem_of_getElem? e)
theorem lvl_at {row : List Int} {p : Nat} (h : p < row.length) : atI (vI row) (p : Int) = some (V.int (lvl row p)) := by
  have := ints_at (l := row) (n := (p : Int)) (by omega) (by omega)
  rw [Int.toNat_natCast] at this
  exact this
/-- the law's own order, at a level that leaves n turns -/
def spOrdN (K : PySem.W.Frag) : Nat → Sp
  | 0 => fun _ _ _ _ => False
  | n + 1 => fun vs H Q _ => ∃ (r q : Addr) (row : List Int) (pl : List Nat) (l : Int), vs = [.ref r, .ref q, .int l] ∧ SqL K H r (vI row) ∧ SqL K H q (vN pl) ∧ (∀ p, lvl row p ≤ 9) ∧ (∀ p ∈ pl, p < row.length) ∧ pl.length ≤ 60 ∧ l + n = 9 ∧
    ∀ (p : Addr) (H' : Hp), Same H H' → H p = none → H' p = some (.lst (vN (ord (lvl row) n l pl))) → Q (.ref p) H'
theorem six_at {j : Int} (h0 : 0 ≤ j) (h6 : j < 6) : ∃ d, atI [V.int 0, V.int 0, V.int 1, V.int (-1), V.int 2, V.int (-2)] j = some (V.int d) := by
  have : j = 0 ∨ j = 1 ∨ j = 2 ∨ j = 3 ∨ j = 4 ∨ j = 5 := by omega
  rcases this with rfl | rfl | rfl | rfl | rfl | rfl <;> exact ⟨_, rfl⟩
theorem RowOk.nil : RowOk [] := ⟨by simp, by simp, by simp⟩
theorem rowOk_snoc {row : List Int} {x : Int} (h : RowOk row) (hl : row.length < 60) (h0 : 0 ≤ x) (h9 : x ≤ 9) : RowOk (row ++ [x]) := by
  refine ⟨by simp; omega, fun y hy => ?_, fun y hy => ?_⟩
  · rcases List.mem_append.mp hy with hy | hy
    · exact h.lo y hy
    · rw [List.mem_singleton.mp hy]; exact h0
  · rcases List.mem_append.mp hy with hy | hy
    · exact h.hi y hy
    · rw [List.mem_singleton.mp hy]; exact h9
theorem drop_split {α : Type} (pl : List α) {i j : Nat} (h : i ≤ j) : pl.drop i = (pl.drop i).take (j - i) ++ pl.drop j := by
  have e := (List.take_append_drop (j - i) (pl.drop i)).symm
  rw [List.drop_drop] at e
  have : i + (j - i) = j := by omega
  rw [this] at e
  exact e
theorem take_drop_mem {α : Type} {pl : List α} {i k : Nat} {x : α} (h : x ∈ (pl.drop i).take k) : ∃ t, i ≤ t ∧ t < i + k ∧ pl[t]? = some x := by
  obtain ⟨m, hm, e⟩ := List.mem_iff_getElem.mp h
  rw [List.length_take, List.length_drop] at hm
  refine ⟨i + m, by omega, by omega, ?_⟩
  rw [List.getElem_take, List.getElem_drop] at e
  rw [List.getElem?_eq_getElem (by omega), e]
theorem ord_head {lv : Nat → Int} {n : Nat} {l : Int} {x : Nat} {ys : List Nat} (h : lv x ≤ l) : ord lv n l (x :: ys) = x :: ord lv n l ys := by
  have := ord_cut (lv := lv) (p := x) (l := l) h n [] ys
  rw [List.nil_append, ord_nil, List.nil_append] at this
  exact this
theorem ord_run {lv : Nat → Int} {n : Nat} {l : Int} {pl : List Nat} {i j : Nat} (hij : i ≤ j) (hq : ∀ t x, i ≤ t → t < j → pl[t]? = some x → l < lv x) (he : ∀ x, pl[j]? = some x → lv x ≤ l) :
    ord lv (n + 1) l (pl.drop i) = (ord lv n (l + 1) ((pl.drop i).take (j - i))).reverse ++ ord lv (n + 1) l (pl.drop j) := by
  have ha : ∀ x ∈ (pl.drop i).take (j - i), decide (l < lv x) = true := by
    intro x hx
    obtain ⟨t, h1, h2, h3⟩ := take_drop_mem hx
    exact decide_eq_true (hq t x h1 (by omega) h3)
  have e := drop_split pl hij
  cases ed : pl.drop j with
  | nil =>
    rw [ed, List.append_nil] at e
    rw [ord_nil, List.append_nil, ← e]
    rw [← e] at ha
    exact ord_step (fun x hx => of_decide_eq_true (ha x hx))
  | cons x ys =>
    rw [ed] at e
    have hx : lv x ≤ l := he x (by
      have : (pl.drop j)[0]? = some x := by rw [ed]; rfl
      rw [List.getElem?_drop] at this
      simpa using this)
    rw [ord_head hx]
    conv => lhs; rw [e]
    have e2 := blocks_step (F := fun xs => (ord lv n (l + 1) xs).reverse) (q := fun p => decide (l < lv p)) ha (p := x) (by simp; omega) ys
    exact e2
end LX
namespace LX
open PySem PySem.Spec PyProof.Rows L2 TM
/-- the order of a row, and where each place is seen -/
def theOrd (row : List Int) : List Nat := ord (lvl row) 9 0 (List.range row.length)
abbrev toI (l : List Nat) : List Int := l.map fun n : Nat => (n : Int)
theorem toI_len (l : List Nat) : (toI l).length = l.length := by simp
theorem theOrd_perm (row : List Int) : (theOrd row).Perm (List.range row.length) := ord_perm 9 0 _
theorem theOrd_len (row : List Int) : (theOrd row).length = row.length := by rw [(theOrd_perm row).length_eq, List.length_range]
def spOrder (K : PySem.W.Frag) : Sp := fun vs H Q _ => ∃ (a : Addr) (row : List Int), vs = [.ref a] ∧ SqL K H a (vI row) ∧ RowOk row ∧ ∀ (p : Addr) (H' : Hp), Same H H' → H p = none → H' p = some (.lst (vN (theOrd row))) → Q (.ref p) H'
theorem iota_vN (n : Nat) : (iota 0 n).map V.int = vN (List.range n) := by
  unfold iota
  simp [vN]
theorem iota_vN' (a n : Nat) : (iota (a : Int) n).map V.int = vN ((List.range n).map (a + ·)) := by
  unfold iota
  simp [vN]
theorem toI_range_sorted (n : Nat) : (toI (List.range n)).Pairwise (· ≤ ·) := by
  rw [List.pairwise_map]
  exact (List.pairwise_lt_range (n := n)).imp fun h => by omega
theorem sorted_range {ns : List Int} {l : List Nat} {n : Nat} (hp : ns.Perm (toI l)) (hl : l.Perm (List.range n)) (hs : ns.Pairwise (· ≤ ·)) : ns = toI (List.range n) :=
  (hp.trans (hl.map _)).eq_of_pairwise (fun _ _ _ _ h1 h2 => Int.le_antisymm h1 h2) hs (toI_range_sorted n)
theorem vN_get {l : List Nat} {i : Nat} {x : V} (h : (vN l)[i]? = some x) : ∃ n, l[i]? = some n ∧ x = V.int (n : Int) := by
  rw [List.getElem?_map] at h
  cases e : l[i]? with
  | none => rw [e] at h; cases h
  | some n => rw [e] at h; exact ⟨n, rfl, (Option.some.inj h).symm⟩
end LX
namespace LX
open PySem PySem.Spec PyProof.Rows L2
open SeqAt
section
variable {X : Cx}
theorem ints_items {A : Around} {s : Shared} : ∀ {ns ms : List Int} {us vs : List Value}, Vals (ns.map V.int) us → Vals (ms.map V.int) vs → ∀ j (h1 : j < us.toArray.size) (h2 : j < vs.toArray.size), EqAt A s us.toArray[j] vs.toArray[j] (decide (ns.getD j 0 = ms.getD j 0))
  | [], _, _, _, .nil, _, j, h1, _ => by simp at h1
  | _ :: _, [], _, _, _, .nil, j, _, h2 => by simp at h2
  | n :: ns, m :: ms, u :: us, v :: vs, .cons r t, .cons r' t', j, h1, h2 => by
    cases j with
    | zero =>
      have := eqAt_V (A := A) (s := s) r r' rfl rfl
      have e : eqV (V.int n) (V.int m) = decide (n = m) := by
        show (n == m) = _
        exact Bool.beq_eq_decide_eq n m
      rw [e] at this
      simpa using this
    | succ j =>
      have := ints_items (A := A) (s := s) t t' j (by simpa using h1) (by simpa using h2)
      simpa using this
theorem all_same {ns ms : List Int} (h : ns.length = ms.length) : (List.range ns.length).all (fun j => decide (ns.getD j 0 = ms.getD j 0)) = decide (ns = ms) := by
  by_cases e : ns = ms
  · subst e
    rw [decide_eq_true rfl, List.all_eq_true]
    intro j _
    exact decide_eq_true rfl
  · rw [decide_eq_false e, List.all_eq_false]
    refine Classical.byContradiction fun hc => e (List.ext_getElem h fun j h1 h2 => ?_)
    refine Classical.byContradiction fun hne => hc ⟨j, List.mem_range.mpr h1, ?_⟩
    rw [List.getD_eq_getElem?_getD, List.getD_eq_getElem?_getD, List.getElem?_eq_getElem h1, List.getElem?_eq_getElem h2]
    intro z
    exact hne (of_decide_eq_true z)
theorem op_eqI (hu : X.A.units < cLine) : OpR X (compareOp .Eq) (fun x y H Q => ∃ (p q : Addr) (ns ms : List Int), x = .ref p ∧ y = .ref q ∧ SqL X.K H p (ns.map V.int) ∧ SqL X.K H q (ms.map V.int) ∧ Q (.bl (decide (ns = ms))) H) := by
  intro pins s σ H x y v u Q I rx ry h
  obtain ⟨p, q, ns, ms, rfl, rfl, hp, hq, k⟩ := h
  cases rx
  cases ry
  obtain ⟨us, r1, l1, z1⟩ := I.list hp
  obtain ⟨vs, r2, l2, z2⟩ := I.list hq
  have e1 := r1.length
  have e2 := r2.length
  rw [List.length_map] at e1 e2
  by_cases hl : ns.length = ms.length
  · refine eq_listAt (e := fun j => decide (ns.getD j 0 = ms.getD j 0)) l1.isList l2.isList (by simp; omega) hu (ints_items r1 r2) ⟨.bl _, H, I, rfl, ?_⟩
    have e : us.toArray.size = ns.length := by simp; omega
    rw [e, all_same hl]
    exact k
  · have e : ns ≠ ms := fun e => hl (by rw [e])
    rw [decide_eq_false e] at k
    obtain ⟨⟨cls, dd, data, sl⟩, ho, hc, n, hd⟩ := l1.isList
    obtain ⟨⟨cls2, dd2, data2, sl2⟩, ho2, hc2, n2, hd2⟩ := l2.isList
    simp only at hc hd hc2 hd2
    subst hc hd hc2 hd2
    exact richCompare_meets_room (op := .Eq) ⟨_, ho, rfl⟩ ⟨_, ho2, rfl⟩ F.slot_list_eq F.entry_list_eq (F.args_list_eq_2 _ _) (list_eq_lengthsAt p q us.toArray vs.toArray n n2 dd dd2 sl sl2 (by simp; omega))
      ⟨ho, ho2, (show Value.bool false ≠ Value.notImplemented ∧ EP X pins σ Q (.bool false) s from ⟨(fun x => nomatch x), ⟨.bl false, H, I, rfl, k⟩⟩)⟩ hu
theorem op_neI (hu : X.A.units < cLine) : OpR X (compareOp .NotEq) (fun x y H Q => ∃ (p q : Addr) (ns ms : List Int), x = .ref p ∧ y = .ref q ∧ SqL X.K H p (ns.map V.int) ∧ SqL X.K H q (ms.map V.int) ∧ Q (.bl (!decide (ns = ms))) H) := by
  intro pins s σ H x y v u Q I rx ry h
  obtain ⟨p, q, ns, ms, rfl, rfl, hp, hq, k⟩ := h
  cases rx
  cases ry
  obtain ⟨us, r1, l1, z1⟩ := I.list hp
  obtain ⟨vs, r2, l2, z2⟩ := I.list hq
  have e1 := r1.length
  have e2 := r2.length
  rw [List.length_map] at e1 e2
  obtain ⟨⟨cls, dd, data, sl⟩, ho, hc, n, hd⟩ := l1.isList
  obtain ⟨⟨cls2, dd2, data2, sl2⟩, ho2, hc2, n2, hd2⟩ := l2.isList
  simp only at hc hd hc2 hd2
  subst hc hd hc2 hd2
  by_cases hl : ns.length = ms.length
  · have e : us.toArray.size = ns.length := by simp; omega
    have k' : Q (.bl (!(List.range us.toArray.size).all fun j => decide (ns.getD j 0 = ms.getD j 0))) H := by rw [e, all_same hl]; exact k
    exact richCompare_meets_room (op := .NotEq) ⟨_, ho, rfl⟩ ⟨_, ho2, rfl⟩ F.slot_list_ne F.entry_list_ne (F.args_list_ne_2 _ _) (list_neAt p q us.toArray vs.toArray n n2 dd dd2 sl sl2 (by simp; omega) (fun j => decide (ns.getD j 0 = ms.getD j 0)))
      ⟨ho, ho2, ints_items r1 r2, (show Value.bool _ ≠ Value.notImplemented ∧ EP X pins σ Q (.bool _) s from ⟨(fun x => nomatch x), ⟨.bl _, H, I, rfl, k'⟩⟩)⟩ hu
  · have e : ns ≠ ms := fun e => hl (by rw [e])
    rw [decide_eq_false e] at k
    exact richCompare_meets_room (op := .NotEq) ⟨_, ho, rfl⟩ ⟨_, ho2, rfl⟩ F.slot_list_ne F.entry_list_ne (F.args_list_ne_2 _ _) (list_ne_lengthsAt p q us.toArray vs.toArray n n2 dd dd2 sl sl2 (by simp; omega))
      ⟨ho, ho2, (show Value.bool true ≠ Value.notImplemented ∧ EP X pins σ Q (.bool true) s from ⟨(fun x => nomatch x), ⟨.bl true, H, I, rfl, k⟩⟩)⟩ hu
end
end LX
namespace LX
open PySem PySem.Spec PyProof.Rows L2 TM
structure GroupOk (row : List Int) (L : Int) (g : List Nat) : Prop where
  ne : g ≠ []
  ge : ∀ p ∈ g, L ≤ lvl row p
  ex : ∃ xs ys, List.range row.length = xs ++ (g ++ ys) ∧ (∀ z p, xs = z ++ [p] → lvl row p < L) ∧ (∀ p z, ys = p :: z → lvl row p < L)
/-- lists of places, one at each address -/
def ListsAt (H : Hp) (as : List Addr) (gs : List (List Nat)) : Prop := Paired (fun (a : Addr) (g : List Nat) => H a = some (.lst (vN g))) as gs
theorem ListsAt.keep {H H' : Hp} {as : List Addr} {gs : List (List Nat)} (h : ListsAt H as gs) (k : ∀ a ∈ as, H' a = H a) : ListsAt H' as gs := by
  induction h with
  | nil => exact .nil
  | cons r t ih => exact .cons (by rw [k _ List.mem_cons_self]; exact r) (ih fun a ha => k a (List.mem_cons_of_mem _ ha))
theorem ListsAt.same {H H' : Hp} {as : List Addr} {gs : List (List Nat)} (h : ListsAt H as gs) (k : Same H H') : ListsAt H' as gs := by
  induction h with
  | nil => exact .nil
  | cons r t ih => exact .cons (k _ _ r) ih
theorem ListsAt.snoc {H : Hp} {as : List Addr} {gs : List (List Nat)} {a : Addr} {g : List Nat} (h : ListsAt H as gs) (e : H a = some (.lst (vN g))) : ListsAt H (as ++ [a]) (gs ++ [g]) := by
  induction h with
  | nil => exact .cons e .nil
  | cons r t ih => exact .cons r ih
theorem ListsAt.at {H : Hp} {as : List Addr} {gs : List (List Nat)} (h : ListsAt H as gs) : ∀ {i : Nat} {a : Addr}, as[i]? = some a → ∃ g, gs[i]? = some g ∧ H a = some (.lst (vN g)) := by
  induction h with
  | nil => intro i a e; simp at e
  | cons r t ih =>
    intro i a e
    cases i with
    | zero => cases e; exact ⟨_, rfl, r⟩
    | succ i => exact ih e
end LX
namespace LX
open PySem PySem.Spec PyProof.Rows L2 TM
def faceV : Option Int → V
  | none => .non
  | some i => .int i
abbrev Face := Option Int × Option Int
def TupsAt (H : Hp) (as : List Addr) (prs : List Face) : Prop := Paired (fun (a : Addr) (x : Face) => H a = some (.tup [faceV x.1, faceV x.2])) as prs
theorem TupsAt.len {H : Hp} {as : List Addr} {prs : List Face} (h : TupsAt H as prs) : as.length = prs.length := Paired.length h
theorem TupsAt.same {H H' : Hp} {as : List Addr} {prs : List Face} (h : TupsAt H as prs) (k : Same H H') : TupsAt H' as prs := by
  induction h with
  | nil => exact .nil
  | cons r t ih => exact .cons (k _ _ r) ih
theorem TupsAt.keep {H H' : Hp} {as : List Addr} {prs : List Face} (h : TupsAt H as prs) (k : ∀ a ∈ as, H' a = H a) : TupsAt H' as prs := by
  induction h with
  | nil => exact .nil
  | cons r t ih => exact .cons (by rw [k _ List.mem_cons_self]; exact r) (ih fun a ha => k a (List.mem_cons_of_mem _ ha))
theorem TupsAt.snoc {H : Hp} {as : List Addr} {prs : List Face} {a : Addr} {x : Face} (h : TupsAt H as prs) (e : H a = some (.tup [faceV x.1, faceV x.2])) : TupsAt H (as ++ [a]) (prs ++ [x]) := by
  induction h with
  | nil => exact .cons e .nil
  | cons r t ih => exact .cons r ih
theorem TupsAt.at {H : Hp} {as : List Addr} {prs : List Face} (h : TupsAt H as prs) : ∀ {i : Nat} {a : Addr}, as[i]? = some a → ∃ x, prs[i]? = some x ∧ H a = some (.tup [faceV x.1, faceV x.2]) := by
  induction h with
  | nil => intro i a e; simp at e
  | cons r t ih =>
    intro i a e
    cases i with
    | zero => cases e; exact ⟨_, rfl, r⟩
    | succ i => exact ih e
theorem TupsAt.there {H : Hp} {as : List Addr} {prs : List Face} (h : TupsAt H as prs) : ∀ a ∈ as, ∃ o, H a = some (.tup o) := by
  intro a ha
  obtain ⟨i, hi⟩ := List.getElem?_of_mem ha
  obtain ⟨_, _, e⟩ := h.at hi
  exact ⟨_, e⟩
theorem refs_at {as : List Addr} {i : Nat} {a : Addr} (h : as[i]? = some a) : atI (as.map V.ref) (i : Int) = some (V.ref a) := by
  refine atI_nat ?_
  rw [List.getElem?_map, h]
  rfl
theorem refs_get {as : List Addr} {i : Nat} {x : V} (h : (as.map V.ref)[i]? = some x) : ∃ a, as[i]? = some a ∧ x = V.ref a := by
  rw [List.getElem?_map] at h
  cases e : as[i]? with
  | none => rw [e] at h; cases h
  | some n => rw [e] at h; exact ⟨n, rfl, (Option.some.inj h).symm⟩
theorem TupsAt.off {H : Hp} {as : List Addr} {prs : List Face} {p : Addr} {xs : List V} {o : HO} (h : TupsAt H as prs) (hp : H p = some (.lst xs)) : TupsAt (upd H p o) as prs := h.keep fun a ha => by
  obtain ⟨t, ht⟩ := h.there a ha
  exact upd_ne (fun e => by rw [e, hp] at ht; cases ht)
end LX
namespace LX
open PySem PySem.Spec PyProof.Rows L2
section
variable {prog : Program} {w : World} {A : Around} {R : Result → Shared → Prop} {s : Shared}
theorem comp_loopF {elt target iter cnd : Expr} {scope : Scope} {pos : Pos} {it acc : Value} {env : Env} (I : Nat → Shared → Prop)
    (turn : ∀ n s, I n s → wpAny (model prog w) A (pyNext it) (fun r s₁ => match r with
      | none => R (.ok .next) s₁
      | some v => wpAny (model prog w) A (letOwnedTupleGo target it v) (fun _ s₁' => wpAny (model prog w) A (assign target env v) (fun _ s₂ => wpAny (model prog w) A (isTrue cnd env (eval cnd env)) (fun b s₂' =>
          if b = true then wpAny (model prog w) A (eval elt env) (fun x s₃ =>
          wpAny (model prog w) A (call (.builtin "list.append") [acc, x]) (fun _ s₄ => ∃ m, m < n ∧ I m s₄) (fun _ _ => False) s₃) (fun _ _ => False) s₂' else ∃ m, m < n ∧ I m s₂') (fun _ _ => False) s₂) (fun _ _ => False) s₁') (fun _ _ => False) s₁) (fun _ _ => False) s)
    (n : Nat) (h : I n s) : codeAny (model prog w) A (.compLoop (.ListComp elt [⟨target, iter, [cnd], 0⟩] scope pos) 0 it acc env) R s := by
  refine codeAny_loop rfl I (fun n s hI => ?_) n h
  show wpAny _ _ ((compTurn (.ListComp elt [⟨target, iter, [cnd], 0⟩] scope pos) 0 it acc env).onRaise (fun x => do noteFrame x env; theTreesLotGoes x)) _ _ s
  refine wpAny_noted ?_
  rw [compTurn_list]
  refine wpAny_bind (wpAny_standAt (wpAny_bind (wpAny_mono (turn n s hI) (fun r s₁ h₁ => ?_) fun _ _ h' => h'.elim)))
  cases r with
  | none => exact wpAny_pure h₁
  | some v =>
    refine wpAny_bind (wpAny_mono h₁ (fun _ s₁' h₁' => wpAny_bind (wpAny_mono h₁' (fun _ s₂ h₂ => wpAny_bind (wpAny_mono (wpAny_tests_one h₂) (fun ok s₃ h₃ => ?_) fun _ _ h' => h'.elim)) fun _ _ h' => h'.elim)) fun _ _ h' => h'.elim)
    cases ok with
    | false =>
      rw [if_neg Bool.false_ne_true] at h₃
      exact wpAny_pure ⟨rfl, h₃⟩
    | true =>
      rw [if_pos rfl] at h₃
      exact wpAny_bind (wpAny_bind (wpAny_mono h₃ (fun x s₄ h₄ => wpAny_bind (wpAny_mono h₄ (fun _ s₅ h₅ => wpAny_pure (wpAny_pure ⟨rfl, h₅⟩)) fun _ _ h' => h'.elim)) fun _ _ h' => h'.elim))
end
section
variable {X : Cx} {fsc : Scope} {N xs ys : List Str} {sel : List Nat} {scope : Scope} {pins : List (Addr × Obj)} {σ : L2.St} {H : Hp} {s : Shared}
def compGF (k : Nat) (sel : List Nat) (g : TG) (tc : TT) (te : TE) (σ : L2.St) (Q : VK) (J : It) (H1 : Hp) : Prop := ∃ W : Nat → Nat → List V → L2.St → Hp → Prop, (∃ m, W 0 m [] (capOf k sel σ) H1) ∧
  ∀ i m ys σ H, W i m ys σ H → (J.stop i H ∧ ∀ p, H p = none → Q (.ref p) (upd H p (.lst ys))) ∨
    (J.go i H ∧ ys.length < sizeLine ∧ ∀ v H', J.yld i H v H' → g v σ H' fun σ2 H2 => tc σ2 H2 fun b H3 => if b = true then te σ2 H3 fun y H4 => ∃ m', m' < m ∧ W (i + 1) m' (ys ++ [y]) σ2 H4 else ∃ m', m' < m ∧ W (i + 1) m' ys σ2 H3)
def tCompF (k : Nat) (sel : List Nat) (wi : TI) (g : TG) (tc : TT) (te : TE) : TE := fun σ H Q => wi σ H (compGF k sel g tc te σ Q)

theorem comp_coreF {elt iter tg cnd : Expr} {pos : Pos} {te : TE} {tc : TT} {g : TG} {it : Addr} {fp : List Addr} {tn : Nat → Heap → Prop} {J : It} {E : Value → Shared → Prop} {Fin : List V → Hp → Prop} {W : Nat → Nat → List V → L2.St → Hp → Prop}
    {RR : Value → Addr → Result → Shared → Prop} (S : CompSc fsc N xs ys sel scope) (eS : X.env.scope = fsc) (eN : X.N = N) (hc : X.calm = true)
    (hg : ∀ cl C s₀ H₀ ex pn, PG (cxC X (xs ++ ys) scope cl C s₀ H₀ ex pn) tg g) (he : ∀ cl C s₀ H₀ ex pn, PE (cxC X (xs ++ ys) scope cl C s₀ H₀ ex pn) elt te) (hcn : ∀ cl C s₀ H₀ ex pn, PT (cxC X (xs ++ ys) scope cl C s₀ H₀ ex pn) cnd tc)
    (I : Inv X pins σ H s) (T : Turn X.prog X.w X.K tg J fp it tn) (st : tn 0 s.heap) (hf : ∀ b ∈ fp, FpOk X pins H b) (w0 : ∃ m, W 0 m [] (capOf xs.length sel σ) H)
    (turn : ∀ i m ys σ H, W i m ys σ H → (J.stop i H ∧ Fin ys H) ∨ (J.go i H ∧ ys.length < sizeLine ∧ ∀ v H', J.yld i H v H' → g v σ H' fun σ2 H2 => tc σ2 H2 fun b H3 => if b = true then te σ2 H3 fun y H4 => ∃ m', m' < m ∧ W (i + 1) m' (ys ++ [y]) σ2 H4 else ∃ m', m' < m ∧ W (i + 1) m' ys σ2 H3))
    (hRR : ∀ D C s' ys H' m', Fin ys H' → H' D = none → Inv X pins σ (upd H' D (.lst ys)) s' → s'.heap.Ns C m' → FpOk X pins (upd H' D (.lst ys)) C → RR (.ref D) C (.ok .next) s') :
    wpAny (model X.prog X.w) X.A (newList []) (fun acc s₃ => wpAny (model X.prog X.w) X.A (newFunctionEnv scope X.env.globals (clsOf scope.names X.env []) [] X.env.qual none .none (some X.env)) (fun cenv s₄ =>
      codeAny (model X.prog X.w) X.A (.compStart (.ListComp elt [⟨tg, iter, [cnd], 0⟩] scope pos) 0 (.ref it) acc { cenv with scope := relabel scope X.env }) (RR acc cenv.locals) s₄) E s₃) E s := by
  refine wpAny_newObj_type (wpAny_newFunctionEnv S.nocell (by intro y hy; simp at hy) (fun h₁ hns₁ hsb₁ => ?_) S.kind)
  dsimp only at hns₁ hsb₁ ⊢
  generalize hH2 : s.heap.push { cls := .type "list", dict := none, data := .seq ([] : List Value).toArray } = H2 at hns₁ hsb₁ ⊢
  have hC : H2.objs.size = s.heap.objs.size + 1 := by rw [← hH2, Heap.size_push]
  have hDC : s.heap.objs.size ≠ H2.objs.size := by rw [hC]; exact Nat.ne_of_lt (Nat.lt_succ_self _)
  have hCle : s.heap.objs.size ≤ H2.objs.size := by rw [hC]; exact Nat.le_succ _
  have below : ∀ b, b < s.heap.objs.size → b ≠ H2.objs.size ∧ b ≠ s.heap.objs.size := fun b hb => ⟨by rw [hC]; exact Nat.ne_of_lt (Nat.lt_succ_of_lt hb), Nat.ne_of_lt hb⟩
  have old : ∀ b o, s.heap.get? b = some o → h₁.get? b = some o := fun b o e => hsb₁.extBut b o (below b (Heap.lt_size e)).1 (Heap.get?_push_of_some _ (hH2 ▸ Heap.get?_push_of_some _ e))
  have hacc : h₁.get? s.heap.objs.size = some { cls := .type "list", data := .seq ([] : List Value).toArray } := hsb₁.extBut _ _ hDC (Heap.get?_push_of_some _ (hH2 ▸ Heap.get?_push_size _ rfl))
  have hlive : ∀ b ∈ fp, ∃ o, s.heap.get? b = some o := fun b hb => by
    obtain ⟨o, ho, _⟩ := T.obj 0 _ st b hb
    exact ⟨o, ho⟩
  have hDf : ∀ b ∈ fp, b ≠ s.heap.objs.size := fun b hb z => by
    obtain ⟨o, ho⟩ := hlive b hb
    exact absurd (Heap.lt_size ho) (by rw [z]; exact Nat.lt_irrefl _)
  generalize hDD : s.heap.objs.size = D at hDC hCle below hacc hDf ⊢
  generalize hCC : H2.objs.size = C at hns₁ hsb₁ hDC hCle below ⊢
  have hCs : s.heap.objs.size ≤ C := by rw [hDD]; exact hCle
  have IC := comp_inv (t' := s.toks + ([] : List (Str × Value)).length) S eS eN I hf hlive old hCs hns₁
  -- what is true of the accumulator and of the iterator's records
  have fpD : ∀ {H' : Hp}, H' D = none → FpOk (cxC X (xs ++ ys) scope (clsOf scope.names X.env []) C s H fp (X.pn ++ pins)) [] H' D := fun {H'} hn => by
    refine ⟨hn, hDC, ?_, .inr (show s.heap.objs.size ≤ D from Nat.le_of_eq hDD), fun y c e z => ?_, fun p hp z => ?_⟩
    · intro z
      exact (List.mem_cons.mp (I.stkSub D z)).elim (fun q => absurd I.lt (by rw [← q, hDD]; exact Nat.lt_irrefl _)) (fun q => I.nofs (Nat.le_of_eq hDD) q)
    · obtain ⟨v, q⟩ := I.cell y c (cls_lookup e)
      exact absurd q.lt (by rw [z, hDD]; exact Nat.lt_irrefl _)
    · have hp' : p ∈ X.pn ++ pins := by
        rcases List.mem_append.mp hp with q | q
        · exact q
        · cases q
      exact absurd (Heap.lt_size (I.pin p hp').1) (by rw [z, hDD]; exact Nat.lt_irrefl _)
  have fpF : ∀ {H' : Hp} {pl : List (Addr × Obj)}, (∀ p ∈ pl, p.1 = D) → (∀ b ∈ fp, H' b = none) → ∀ b ∈ fp, FpOk (cxC X (xs ++ ys) scope (clsOf scope.names X.env []) C s H fp (X.pn ++ pins)) pl H' b := fun {H' pl} hpl hn b hb => by
    obtain ⟨f0, f1, f2, f3, f4, f5⟩ := hf b hb
    obtain ⟨o, ho⟩ := hlive b hb
    refine ⟨hn b hb, Nat.ne_of_lt (Nat.lt_of_lt_of_le (Heap.lt_size ho) hCs), fun z => (List.mem_cons.mp (I.stkSub b z)).elim f1 f2, .inl hb, fun y c e => f4 y c (cls_lookup e), fun p hp => ?_⟩
    rcases List.mem_append.mp hp with q | q
    · exact f5 p q
    · rw [hpl p q]; exact Ne.symm (hDf b hb)
  have one : ∀ {ob : Obj}, ∀ p ∈ [(D, ob)], p.1 = D := fun {ob} p hp => by
    rw [List.mem_singleton.mp hp]
  have none0 : ∀ p ∈ ([] : List (Addr × Obj)), p.1 = D := fun p hp => by cases hp
  have loop : ∀ s₃ : Shared, s₃ = { s with heap := h₁, toks := s.toks + ([] : List (Str × Value)).length } →
      codeAny (model X.prog X.w) X.A (.compLoop (.ListComp elt [⟨tg, iter, [cnd], 0⟩] scope pos) 0 (.ref it) (.ref D) (compEnvC scope (clsOf scope.names X.env []) C X.env)) (RR (.ref D) C) s₃ := by
    rintro s₃ rfl
    obtain ⟨m0, w0⟩ := w0
    refine comp_loopF (fun n s' => ∃ i σ' H' zs its cnt, Inv (cxC X (xs ++ ys) scope (clsOf scope.names X.env []) C s H fp (X.pn ++ pins)) [] σ' H' s' ∧ tn i s'.heap ∧ (∀ b ∈ fp, H' b = none) ∧
      s'.heap.get? D = some { cls := .type "list", data := .seq (its : List Value).toArray cnt } ∧ Vals zs its ∧ H' D = none ∧ zs.length ≤ sizeLine ∧ W i n zs σ' H') ?_ m0
      ⟨0, _, H, [], [], 0, IC, T.keep _ _ _ st fun b hb o e => old b o e, fun b hb => (hf b hb).1, hacc, .nil, I.hok.fresh (Nat.le_of_eq hDD), Nat.zero_le _, w0⟩
    rintro n s' ⟨i, σ', H', zs, its, cnt, I', st', fr', hD', vv, nD', hz', w'⟩
    have Ip : Inv (cxC X (xs ++ ys) scope (clsOf scope.names X.env []) C s H fp (X.pn ++ pins)) [(D, { cls := .type "list", data := .seq its.toArray cnt })] σ' H' s' := I'.pins_of fun p hp => by
      rw [List.mem_singleton.mp hp]
      obtain ⟨f0, f1, f2, _⟩ := fpD nD'
      exact ⟨hD', nD', f1, f2, fun v z => by cases z⟩
    rcases turn i n zs σ' H' w' with ⟨stop, fin⟩ | ⟨go, hlt, step⟩
    · refine thn (T.done (cxC X (xs ++ ys) scope (clsOf scope.names X.env []) C s H fp (X.pn ++ pins)) rfl rfl rfl hc i _ s' σ' H' _ Ip (fpF one fr') st' stop) fun r s4 ⟨hr, I4⟩ => ?_
      subst hr
      dsimp only
      have pD4 := I4.pin (D, { cls := .type "list", data := .seq its.toArray cnt }) (List.mem_append_right _ List.mem_cons_self)
      have nC : H' C = none := I4.free
      obtain ⟨mC, hmC, _⟩ := I4.loc
      have hD4 : s4.heap.get? D = some { cls := .type "list", data := .seq its.toArray cnt } := pD4.1
      have uN : Un (frs X.stack) fp H (upd H' D (.lst zs)) s.heap s4.heap := by
        have u : Un (frs X.stack) fp H H' s.heap s4.heap := I4.base
        refine ⟨u.keep, u.slot, fun b o e n hx => ?_, u.there, fun b q e => ?_, fun b o q e => ?_, fun b q e => ?_⟩
        · rw [upd_ne (by rw [← hDD]; exact Nat.ne_of_lt (Heap.lt_size e))]
          exact u.free b o e n hx
        · have e' := u.tups b q e
          rw [upd_ne (ne_of_none e' nD')]
          exact e'
        · have e' := u.frzs b o q e
          rw [upd_ne (ne_of_none e' nD')]
          exact e'
        · obtain ⟨more, e'⟩ := u.tbls b q e
          exact ⟨more, by rw [upd_ne (ne_of_none e' nD')]; exact e'⟩
      have hokN : HOk X.prog X.w (upd H' D (.lst zs)) s4.heap := fun b u e => by
        by_cases hb : b = D
        · subst hb
          rw [upd_same] at e
          cases e
          exact ⟨hz', its, cnt, vv, hD4⟩
        · rw [upd_ne hb] at e
          exact (I4.hok b u e).stay (fun _ _ _ q => q) (fun c q => by rw [upd_ne (ne_of_none q nD')]; exact q) fun c _ q => by rw [upd_ne (ne_of_none q nD')]; exact q
      have IX : Inv X pins σ (upd H' D (.lst zs)) s4 := I.call' I4.os uN hokN I4.bare fun b hb => let ⟨_, f1, _, f3, f4, f5⟩ := hf b hb; ⟨f3, f1, f4, f5⟩
      refine hRR D C s4 zs H' mC fin nD' IX hmC (I.fpOk hCs ?_)
      rw [upd_ne (Ne.symm hDC)]
      exact nC
    · refine thn (T.item (cxC X (xs ++ ys) scope (clsOf scope.names X.env []) C s H fp (X.pn ++ pins)) rfl rfl rfl hc i _ s' σ' H' _ Ip (fpF one fr') st' go) fun r s4 ⟨u, hr, h4⟩ => ?_
      subst hr
      dsimp only
      refine thn h4 fun _ s5 ⟨x, H5, I5, r5, y5, st5, fr5⟩ => ?_
      have pD5 := I5.pin (D, { cls := .type "list", data := .seq its.toArray cnt }) (List.mem_append_right _ List.mem_cons_self)
      have nD5 : H5 D = none := pD5.2.1
      have hD5 : s5.heap.get? D = some { cls := .type "list", data := .seq its.toArray cnt } := pD5.1
      have I50 : Inv (cxC X (xs ++ ys) scope (clsOf scope.names X.env []) C s H fp (X.pn ++ pins)) [] σ' H5 s5 := I5.pins_of fun p hp => by cases hp
      have I5' := I50.pinned (fp := D :: fp) (fun b hb => by
        rcases List.mem_cons.mp hb with z | z
        · rw [z]; exact fpD nD5
        · exact fpF none0 fr5 b z) (fun b hb => by
        rcases List.mem_cons.mp hb with z | z
        · rw [z]; exact ⟨_, hD5, fun v z => by cases z⟩
        · exact T.obj _ _ st5 b z)
      refine thn (hg _ _ _ _ _ _ _ s5 σ' H5 x u _ I5' r5 (step x H5 y5)) fun _ s6 ⟨σ6, H6, I6, q6⟩ => ?_
      refine thn (hcn _ _ _ _ _ _ _ s6 σ6 H6 _ I6 q6) fun bv s65 ⟨H65, I65, q65⟩ => ?_
      have pin65 : ∀ {b : Addr} {o : Obj}, b ∈ D :: fp → s5.heap.get? b = some o → s65.heap.get? b = some o ∧ H65 b = none := fun {b o} hb e =>
        let q := I65.pin (b, o) (List.mem_append_right _ (List.mem_append_right _ (mem_pinsAt hb e))); ⟨q.1, q.2.1⟩
      cases bv with
      | false =>
        rw [if_neg Bool.false_ne_true] at q65 ⊢
        obtain ⟨m', hm, w7⟩ := q65
        obtain ⟨hD7, nD7⟩ := pin65 List.mem_cons_self hD5
        refine ⟨m', hm, i + 1, σ6, H65, zs, its, _, ?_, ?_, fun b hb => ?_, hD7, vv, nD7, hz', w7⟩
        · exact I65.unpinned
        · exact T.keep _ _ _ st5 fun b hb o e => (pin65 (List.mem_cons_of_mem _ hb) e).1
        · obtain ⟨o, e, _⟩ := T.obj _ _ st5 b hb
          exact (pin65 (List.mem_cons_of_mem _ hb) e).2
      | true =>
      rw [if_pos rfl] at q65 ⊢
      refine thn (he _ _ _ _ _ _ _ s65 σ6 H65 _ I65 q65) fun yv s7 ⟨y, H7, I7, r7, m', hm, w7⟩ => ?_
      have pin7 : ∀ {b : Addr} {o : Obj}, b ∈ D :: fp → s5.heap.get? b = some o → s7.heap.get? b = some o ∧ H7 b = none := fun {b o} hb e =>
        let q := I7.pin (b, o) (List.mem_append_right _ (List.mem_append_right _ (mem_pinsAt hb e))); ⟨q.1, q.2.1⟩
      obtain ⟨hD7, nD7⟩ := pin7 List.mem_cons_self hD5
      have hlv := vv.length
      refine call_meets F.slot_list_append ⟨_, hD7, rfl⟩ F.entry_list_append (F.args_list_append_2 _ _) (PySem.list_append D its.toArray cnt yv (by rw [List.size_toArray]; omega)) ⟨hD7, ?_⟩
      have q := PySem.IsL.update hD7 (fun a => a.push yv)
      have hp : its.toArray.push yv = (its ++ [yv]).toArray := by simp
      rw [hp] at q
      refine ⟨m', hm, i + 1, σ6, H7, zs ++ [y], its ++ [yv], _, ?_, ?_, fun b hb => ?_, q, vv.append (.cons r7 .nil), nD7, ?_, w7⟩
      · obtain ⟨f0, f1, f2, f3, f4, f5⟩ := fpD nD7
        exact I7.unpinned.turned (it := D) (fun b o hb e => (Heap.get?_update_other _ _ (Ne.symm hb)).trans e) f0 f1 f3 f4 f5
      · refine T.keep _ _ _ st5 fun b hb o e => ?_
        exact (Heap.get?_update_other _ _ (Ne.symm (hDf b hb))).trans (pin7 (List.mem_cons_of_mem _ hb) e).1
      · obtain ⟨o, e, _⟩ := T.obj _ _ st5 b hb
        exact (pin7 (List.mem_cons_of_mem _ hb) e).2
      · rw [List.length_append, List.length_singleton]
        omega
  exact codeAny_compStart_list (loop _ rfl) (T.self X.A 0 _ _ _ (T.keep _ _ _ st fun b hb o e => old b o e) (loop _ rfl))

end
end LX
namespace TM
end TM
namespace LX
open PySem PySem.Spec PyProof.Rows L2 TM
end LX
namespace LX
open PySem PySem.Spec PyProof.Rows L2 TM
def pcsF : Nat → Option Nat → List Bool → List (Nat × Nat)
  | at', some b, [] => [(b, at')]
  | _, none, [] => []
  | at', some b, true :: xs => pcsF (at' + 1) (some b) xs
  | at', none, true :: xs => pcsF (at' + 1) (some at') xs
  | at', some b, false :: xs => (b, at') :: pcsF (at' + 1) none xs
  | at', none, false :: xs => pcsF (at' + 1) none xs
def pcs (xs : List Bool) : List (Nat × Nat) := pcsF 0 none xs
def toF (l : List (Nat × Nat)) : List Face := l.map fun x => (some (x.1 : Int), some (x.2 : Int))
theorem toF_len (l : List (Nat × Nat)) : (toF l).length = l.length := by simp [toF]
end LX
namespace LX
open PySem PySem.Spec PyProof.Rows L2
open Sem (wp)
def Itd (hi : Int) (n : Nat) : It := ⟨fun i _ => i < n, fun i H x H' => H' = H ∧ x = .int (hi - i), fun i _ => n ≤ i⟩
theorem turn_rangeD {P : Program} {w : World} {K : PySem.W.Frag} {tg : Expr} (it : Addr) (hi : Int) (n : Nat) : Turn P w K tg (Itd hi n) [it] it (fun i h => IsRangeIter h it (hi + (i : Nat) * (-1)) ((n : Int) - (i : Nat)) (-1)) where
  mem := by simp
  obj := fun i h st b hb => by
    have e : b = it := by simpa using hb
    subst e
    exact ⟨_, st, fun v z => by
      have z' : Data.fields _ = Data.cell v := z
      cases z'⟩
  keep := fun i h h' st k => k it (by simp) _ st
  item := by
    intro X hP hw hK hc i pins s σ H E I hf st hg
    subst hP hw hK
    obtain ⟨f0, f1, f2, f3, f4, f5⟩ := hf it (by simp)
    have W := Walks.range (prog := X.prog) (w := X.w) (I.ok.hd hc) it hi (-1) n
    refine W.item i s _ _ hg st fun v h' tk hv st' kk => ?_
    obtain ⟨t, rfl⟩ := hv
    have I1 : Inv X pins σ H { s with heap := h', toks := tk } := I.turned (fun b o hb e => kk b o (by simpa using hb) e) f0 f1 f3 f4 f5
    refine ⟨_, rfl, go_of (s := { s with heap := h', toks := tk }) (n := "range_iterator") st' rfl rfl (by decide) ⟨.int (hi - i), H, I1, ⟨t, ?_⟩, ⟨rfl, rfl⟩, st', fun b hb => (hf b hb).1⟩⟩
    have : hi - (i : Int) = hi + (i : Nat) * (-1) := by omega
    rw [this]
  done := by
    intro X hP hw hK hc i pins s σ H E I hf st hg
    subst hP hw hK
    obtain ⟨f0, f1, f2, f3, f4, f5⟩ := hf it (by simp)
    exact wpAny_pyNext_range_end (I.ok.hd hc) st (by have : n ≤ i := hg; omega) fun h' eb => ⟨rfl, I.turned (t' := s.toks) (fun b o hb e => eb b o hb e) f0 f1 f3 f4 f5⟩
  self := fun _ _ _ _ _ st h => wpAny_pyIter_rangeiter st h
theorem sizeD (a b : Int) : Builtin.Range.rangeSize a b (-1) = ((a - b).toNat : Int) := by
  unfold Builtin.Range.rangeSize
  simp only [show ¬ ((-1 : Int) > 0) by decide, if_false, show (-(-1) : Int) = 1 from rfl, Int.ediv_one]
  split <;> omega
theorem fitD {a b : Int} (h1 : -(2 ^ 62) ≤ a) (h2 : a < 2 ^ 62) (h3 : -(2 ^ 62) ≤ b) (h4 : b < 2 ^ 62) : Builtin.Range.small a b (-1) = true := by
  unfold Builtin.Range.small
  rw [sizeD]
  simp only [Builtin.Range.rangeFitsLong, Bool.and_eq_true, Bool.or_eq_true, decide_eq_true_eq, beq_iff_eq, show ¬ ((-1 : Int) > 0) by decide, if_false]
  omega
section
variable {X : Cx} {tg : Expr}
theorem rangeD_it {pins : List (Addr × Obj)} {σ : L2.St} {H : Hp} {s : Shared} {R : It → Hp → Prop} {E : Value → Shared → Prop} {hi lo : Int} {t u v : Tok} {tk : Nat} (I : Inv X pins σ H s) (h1 : -(2 ^ 62) ≤ hi) (h2 : hi < 2 ^ 62) (h3 : -(2 ^ 62) ≤ lo) (h4 : lo < 2 ^ 62)
    (q : R (Itd hi (hi - lo).toNat) H) : wpAny (model X.prog X.w) X.A (pyIter (.ref s.heap.objs.size)) (PIE X pins σ tg R) E { s with heap := s.heap.push { cls := .type "range", data := .fields #[.int hi t, .int lo u, .int (-1) v] }, toks := tk } := by
  refine wpAny_pyIter_range (Heap.get?_push_size _ rfl) (fitD h1 h2 h3 h4) ?_
  have I1 : Inv X pins σ H { s with heap := s.heap.push { cls := .type "range", data := .fields #[.int hi t, .int lo u, .int (-1) v] }, toks := tk } := I.kept fun b o e => Heap.get?_push_of_some _ e
  refine ⟨(s.heap.push { cls := .type "range", data := .fields #[.int hi t, .int lo u, .int (-1) v] }).objs.size, [(s.heap.push { cls := .type "range", data := .fields #[.int hi t, .int lo u, .int (-1) v] }).objs.size], _, _, H, rfl,
    I1.kept (t' := tk) fun b o e => Heap.get?_push_of_some _ e, turn_rangeD _ hi (hi - lo).toNat, ?_, fun b hb => ?_, q⟩
  · have e1 : hi + ((0 : Nat) : Int) * (-1) = hi := by simp
    have e2 : (((hi - lo).toNat : Nat) : Int) - ((0 : Nat) : Int) = Builtin.Range.rangeSize hi lo (-1) := by rw [sizeD]; omega
    show IsRangeIter _ _ (hi + ((0 : Nat) : Int) * (-1)) ((((hi - lo).toNat : Nat) : Int) - ((0 : Nat) : Int)) (-1)
    rw [e1, e2]
    exact Heap.get?_push_size _ rfl
  · have e : b = (s.heap.push { cls := .type "range", data := .fields #[.int hi t, .int lo u, .int (-1) v] }).objs.size := by simpa using hb
    subst e
    exact I1.fpOk (Nat.le_refl _) (I1.hok.fresh (Nat.le_refl _))
def iRngD (ta : TA) : TI := fun σ H R => ta σ H fun vs H1 => ∃ i j : Int, vs = [.int i, .int j, .int (-1)] ∧ (-(2 ^ 62) ≤ i ∧ i < 2 ^ 62 ∧ -(2 ^ 62) ≤ j ∧ j < 2 ^ 62) ∧ R (Itd i (i - j).toNat) H1
theorem pi_rangeD {a b c : Expr} {ta : TA} {p pos : Pos} (hg : Gl X "range") (hm : X.mg "range" = none) (ha : PA X [a, b, c] ta) (hs : starEach [a, b, c] X.env = (false, eval a X.env) :: starEach [b, c] X.env := by rfl)
    (hs2 : (backTo pos (starEach [b, c] X.env)).any (·.1) = false := by rfl) : PI X tg (.Call (.Name "range" p) [a, b, c] [] pos) (iRngD ta) := by
  intro pins s σ H R I h
  refine Call_ (ld_blt I hg hm boot_range (PyProof.Rows.callWith_type1 (thn (ha pos pins s σ H _ I h) fun us s1 ⟨vs, H1, I1, r1, q1⟩ => ?_) hs hs2))
  obtain ⟨i, j, e, ⟨q1, q2, q3, q4⟩, q⟩ := q1
  subst e
  obtain ⟨u1, u2, u3, rfl, ⟨t1, rfl⟩, ⟨t2, rfl⟩, ⟨t3, rfl⟩⟩ := Vals.three r1
  exact call_range_3 (by decide) (rangeD_it I1 q1 q2 q3 q4 q) (Or.inl (PyProof.noPylong_small (by decide)))
theorem for_rangeD {hi : Int} {n : Nat} {g : TG} {tb : TS} {D : Ends} {σ : L2.St} {H : Hp} (Pv : Nat → L2.St → Hp → Prop) (h0 : Pv 0 σ H)
    (hs : ∀ i σ H, i < n → Pv i σ H → g (.int (hi - i)) σ H fun σ2 H2 => tb { D with nx := Pv (i + 1), ct := Pv (i + 1), bk := D.nx } σ2 H2) (hd : ∀ σ H, Pv n σ H → D.nx σ H) :
    ∃ W : Nat → Nat → L2.St → Hp → Prop, (∃ m, W 0 m σ H) ∧ ∀ i m σ H, W i m σ H →
      ((Itd hi n).stop i H ∧ D.nx σ H) ∨ ((Itd hi n).go i H ∧ ∃ N : L2.St → Hp → Prop, (∀ σ' H', N σ' H' → ∃ m', m' < m ∧ W (i + 1) m' σ' H') ∧ ∀ x H', (Itd hi n).yld i H x H' → g x σ H' fun σ2 H2 => tb { D with nx := N, ct := N, bk := D.nx } σ2 H2) := by
  refine ⟨fun i m σ H => m = n - i ∧ i ≤ n ∧ Pv i σ H, ⟨n, by simp, Nat.zero_le _, h0⟩, ?_⟩
  rintro i m σ H ⟨rfl, hi, p⟩
  by_cases hlt : i < n
  · refine .inr ⟨hlt, Pv (i + 1), fun σ' H' p' => ⟨n - (i + 1), by omega, rfl, hlt, p'⟩, fun x H' y => ?_⟩
    obtain ⟨e, y⟩ := y
    subst e y
    exact hs i σ _ hlt p
  · have e : i = n := by omega
    subst e
    exact .inl ⟨Nat.le_refl _, hd σ H p⟩
end
section
variable {X : Cx} {a b c d : Expr} {ta tb tc td : TE} {pos : Pos}
end
theorem args_maxD (a d : Value) : argsOk "max" ⟨[a], [(("default" : Str), d)]⟩ := by unfold argsOk; kernel_rfl
section
variable {prog : Program} {w : World} {A : Around}
theorem maxD_loop {R : Result → Shared → Prop} {J : Addr} {fq wq : List Addr} {n : Nat} {G : Nat → Value → Prop} {Z : Nat → Heap → Prop} (W : Walks prog w A.in1 J fq wq n G Z) (bt : Nat → Nat → Bool) (cm : CmpOf prog w A.in1 .Gt G bt) (B : Addr) (hB : B ∉ fq) (d : Value) :
    ∀ (k j : Nat) (s : Shared) (its : Array Value) (c : Nat), n - j = k → j ≤ n → Z j s.heap → ((its = #[] ∧ j = 0) ∨ ∃ b, its = #[b, b] ∧ 0 < j ∧ G (argBest bt (j - 1)) b) →
    s.heap.get? B = some { cls := .type "list", dict := none, data := .seq its c, slots := #[] } →
    (∀ v h' tk, ((n = 0 ∧ v = d) ∨ (0 < n ∧ G (argBest bt (n - 1)) v)) → (∀ b o, b ∉ wq → b ≠ B → s.heap.get? b = some o → h'.get? b = some o) → R (.ok (.ret v)) { s with heap := h', toks := tk }) →
    codeAny (model prog w) A (.builtin "max.loop" ⟨[.ref J, .none, .ref B], [(("default" : Str), d)]⟩) R s := by
  have hBw : B ∉ wq := fun z => hB (W.sub _ z)
  have nm : (toString "max" ++ toString ".loop" : String) = "max.loop" := by decide
  intro k
  induction k with
  | zero =>
    intro j s its c hk hj st hits hS hR
    have ej : j = n := by omega
    subst ej
    refine codeAny_builtin PySem.F.entry_max_loop ?_
    rw [Around.under_plainId PySem.F.plain_max_loop _]
    show wpAny _ A.in1 (seqItems? (.ref B) >>= _) _ _ s
    refine wpAny_bind (wpAny_seqItems hS rfl ?_)
    rcases hits with ⟨rfl, rfl⟩ | ⟨b, rfl, hj0, gb⟩
    · show wpAny _ A.in1 (tryCatch (pyNext (.ref J)) _ >>= _) _ _ s
      refine wpAny_bind (wpAny_tryCatch (W.done s _ _ st fun h' tk kp => ?_))
      show wpAny _ A.in1 (rule _ >>= _) _ _ _
      exact wpAny_bind (wpAny_rule (wpAny_pure (hR d _ tk (.inl ⟨rfl, rfl⟩) fun b o hb _ e => kp b o hb e)))
    · show wpAny _ A.in1 (tryCatch (pyNext (.ref J)) _ >>= _) _ _ s
      refine wpAny_bind (wpAny_tryCatch (W.done s _ _ st fun h' tk kp => ?_))
      show wpAny _ A.in1 (updateSeq B (fun _ => #[]) >>= _) _ _ _
      refine wpAny_bind ?_
      refine wpAny_updateSeq (kp B _ hBw hS) rfl (wpAny_bind (wpAny_letGo (wpAny_pure ?_)))
      exact hR b _ tk (.inr ⟨hj0, gb⟩) fun b o hb hne e => (Heap.get?_update_other _ _ (Ne.symm hne)).trans (kp b o hb e)
  | succ k ih =>
    intro j s its c hk hj st hits hS hR
    have lt : j < n := by omega
    refine codeAny_builtin PySem.F.entry_max_loop ?_
    rw [Around.under_plainId PySem.F.plain_max_loop _]
    show wpAny _ A.in1 (seqItems? (.ref B) >>= _) _ _ s
    refine wpAny_bind (wpAny_seqItems hS rfl ?_)
    rcases hits with ⟨rfl, rfl⟩ | ⟨b, rfl, hj0, gb⟩
    · show wpAny _ A.in1 (tryCatch (pyNext (.ref J)) _ >>= _) _ _ s
      refine wpAny_bind (wpAny_tryCatch (W.item 0 s _ _ lt st fun v h' tk gv st' kp => ?_))
      have hS' := kp B _ hBw hS
      show wpAny _ A.in1 (updateSeq B (fun _ => #[v, v]) >>= _) _ _ _
      refine wpAny_bind ?_
      refine wpAny_updateSeq hS' rfl ?_
      rw [nm]
      refine wpAny_pure ⟨plainId_quiet PySem.F.plain_max_loop _, ih 1 _ #[v, v] _ (by omega) lt (W.frame _ _ _ st' fun b hb o e => ?_) (.inr ⟨v, rfl, by omega, gv⟩) (Heap.get?_update_self _ hS' rfl) fun v' h2 tk2 g2 kp2 => ?_⟩
      · exact (Heap.get?_update_other _ _ (fun z : B = b => hB (by rw [z]; exact hb))).trans e
      · exact hR v' h2 tk2 g2 fun b o hb hne e => kp2 b o hb hne ((Heap.get?_update_other _ _ (Ne.symm hne)).trans (kp b o hb e))
    · show wpAny _ A.in1 (tryCatch (pyNext (.ref J)) _ >>= _) _ _ s
      refine wpAny_bind (wpAny_tryCatch (W.item j s _ _ lt st fun v h' tk gv st' kp => ?_))
      have hS' := kp B _ hBw hS
      show wpAny _ A.in1 (tryCatch (holding [v, v] (richCompare .Gt v b >>= _)) _ >>= _) _ _ _
      refine wpAny_bind (wpAny_tryCatch (wpAny_holding (wpAny_bind (cm j (argBest bt (j - 1)) v b _ _ _ gv gb ?_))))
      refine wpAny_bind (wpAny_holding (wpAny_truthy_bool ?_))
      refine wpAny_bind (wpAny_letGo (wpAny_pure ?_))
      have ea : argBest bt j = if bt j (argBest bt (j - 1)) then j else argBest bt (j - 1) := by
        obtain ⟨i, rfl⟩ : ∃ i, j = i + 1 := ⟨j - 1, by omega⟩
        rfl
      cases hb : bt j (argBest bt (j - 1)) with
      | true =>
        simp only [if_true]
        refine wpAny_bind ?_
        refine wpAny_updateSeq hS' rfl (wpAny_bind (wpAny_letGo ?_))
        rw [nm]
        refine wpAny_pure ⟨plainId_quiet PySem.F.plain_max_loop _, ih (j + 1) _ #[v, v] _ (by omega) lt (W.frame _ _ _ st' fun b hb o e => ?_) (.inr ⟨v, rfl, by omega, ?_⟩) (Heap.get?_update_self _ hS' rfl) fun v' h2 tk2 g2 kp2 => ?_⟩
        · exact (Heap.get?_update_other _ _ (fun z : B = b => hB (by rw [z]; exact hb))).trans e
        · show G (argBest bt j) v
          rw [ea, hb, if_pos rfl]
          exact gv
        · exact hR v' h2 tk2 g2 fun b o hb hne e => kp2 b o hb hne ((Heap.get?_update_other _ _ (Ne.symm hne)).trans (kp b o hb e))
      | false =>
        simp only [Bool.false_eq_true, if_false]
        refine wpAny_bind (wpAny_letGo ?_)
        rw [nm]
        refine wpAny_pure ⟨plainId_quiet PySem.F.plain_max_loop _, ih (j + 1) _ #[b, b] c (by omega) lt st' (.inr ⟨b, rfl, by omega, ?_⟩) hS' fun v' h2 tk2 g2 kp2 => ?_⟩
        · show G (argBest bt j) b
          rw [ea, hb, if_neg (by decide)]
          exact gb
        · exact hR v' h2 tk2 g2 fun b o hb hne e => kp2 b o hb hne (kp b o hb e)
theorem call_treeK {id : String} {b : Builtin} {args : List Value} {kw : List (Str × Value)} {E : Value → Shared → Prop} {s : Shared} {Q : Value → Shared → Prop} (hk : builtinKind id = none) (hp : plainId id = true) (hb : entryFor table id = some b) (ha : argsOk id ⟨args, kw⟩)
    (hc : wpAny (model prog w) A.in1 (b ⟨args, kw⟩) (fun fin t => match fin with
      | .done g => (match (Except.ok g : Result) with | .ok (.ret u) => Q u t | .ok _ => False | .error x => E x t)
      | .again c2 => c2.quiet = true ∧ codeAny (model prog w) A c2 (fun r t => match r with | .ok (.ret u) => Q u t | .ok _ => False | .error x => E x t) t) E s) : wpAny (model prog w) A (call (.builtin id) args kw) Q E s := by
  refine wpAny_call (codeAny_call_builtin hp hb ?_)
  simp only [checkBuiltinCall, hk]
  cases sg : Manifest.signature? id with
  | none => exact wpAny_pure hc
  | some sig =>
    simp only [argsOk, sg] at ha
    show wpAny _ A.in1 (Bind.checkArgs id sig ⟨args, kw⟩) _ _ s
    rw [show Bind.checkArgs id sig ⟨args, kw⟩ = pure () from ha]
    exact wpAny_pure hc
theorem call_maxD {E : Value → Shared → Prop} {s : Shared} {l : Addr} {xs : Array (Int × Tok)} {d : Value} {Q : Value → Shared → Prop} (hh : A.handled = none) (hl : s.heap.IsList l (intItems xs))
    (h : ∀ v h' tk, ((xs.size = 0 ∧ v = d) ∨ (0 < xs.size ∧ (intItems xs)[argBest (fun i j => decide (numAt xs i > numAt xs j)) (xs.size - 1)]? = some v)) → (∀ b o, s.heap.get? b = some o → h'.get? b = some o) → Q v { s with heap := h', toks := tk }) :
    wpAny (model prog w) A (call (.builtin "max") [.ref l] [(("default" : Str), d)]) Q E s := by
  have nm : (toString "max" ++ toString ".loop" : String) = "max.loop" := by decide
  refine call_treeK PySem.F.kind_max PySem.F.plain_max PySem.F.entry_max (args_maxD _ _) ?_
  show wpAny _ A.in1 (Builtin.Builtins.bindParams "max" ["key", "default"] 0 ⟨[], [(("default" : Str), d)]⟩ >>= _) _ _ s
  refine wpAny_bind (wpAny_of_eq (show Builtin.Builtins.bindParams "max" ["key", "default"] 0 ⟨[], [(("default" : Str), d)]⟩ = pure [none, some d] from rfl) ?_)
  refine wpAny_bind (wpAny_pure ?_)
  refine wpAny_bind (iter_intList hl fun s₂ e st hfp hlI => ?_)
  subst e
  refine wpAny_bind (wpAny_newObj_type ?_)
  rw [nm]
  have W := Walks.list (prog := prog) (w := w) (A := A.in1) hh s.heap.objs.size l hlI (intItems xs)
  have hz : (intItems xs).size = xs.size := by simp [intItems]
  have hSf : (s.heap.push { cls := .type "list_iterator", data := .fields #[.ref l, .int 0 0] }).objs.size ∉ [s.heap.objs.size, l] := fun hm => Nat.lt_irrefl _ (hfp _ hm)
  refine wpAny_pure ⟨plainId_quiet PySem.F.plain_max_loop _, maxD_loop W (fun i j => decide (numAt xs i > numAt xs j)) (CmpOf.ints_gt (numAt xs) fun _ _ => intItems_at) _ hSf d _ 0 _ #[] _ rfl (Nat.zero_le _)
    (W.frame _ _ _ st fun b _ o e => Heap.get?_push_of_some _ e) (.inl ⟨rfl, rfl⟩) (Heap.get?_push_size _ rfl) fun v h' tk hP hk => ?_⟩
  rw [hz] at hP
  refine h v h' tk hP (old_kept fun b o hb e => hk b o hb (Nat.ne_of_lt (Heap.lt_size e)) (Heap.get?_push_of_some _ e))
end
section
variable {X : Cx} {x : Str} {p pos kpos : Pos} {e : Expr} {es : List Expr} {ed : Expr} {t tk : TA}
/-- the greatest of a list of whole numbers, else what is given for none -/
def tMaxD (K : PySem.W.Frag) (t tk : TA) : TE := fun σ H Q => t σ H fun vs H1 => tk σ H1 fun ds H2 => ∃ (a : Addr) (ns : List Int) (d : Int), vs = [.ref a] ∧ ds = [.int d] ∧ SqL K H2 a (ns.map V.int) ∧ ∀ M, ((ns = [] ∧ M = d) ∨ (M ∈ ns ∧ ∀ y ∈ ns, y ≤ M)) → Q (.int M) H2
theorem pe_maxD (hc : X.calm = true) (hg : Gl X "max") (hm : X.mg "max" = none) (ha : PA X [e] t) (hk : PK X [⟨some "default", ed, kpos⟩] tk)
    (he : backTo pos (starEach [e] X.env) = (false, eval e X.env) :: backTo pos (starEach [] X.env) := by rfl) (hpl : (backTo pos (starEach [e] X.env)).any (·.1) = false := by rfl)
    (hall : (backToKw pos (keywordEach [⟨some "default", ed, kpos⟩] X.env)).all (·.1.isSome) = true := by rfl) (hkw : (backToKw pos (keywordEach [⟨some "default", ed, kpos⟩] X.env)).any (·.1.isNone) = false := by rfl)
    (hks : (backToKw pos (keywordEach [⟨some "default", ed, kpos⟩] X.env)).filterMap (·.1) = [("default" : Str)] := by rfl) :
    PE X (.Call (.Name "max" p) [e] [⟨some "default", ed, kpos⟩] pos) (tMaxD X.K t tk) := by
  intro pins s σ H Q I h
  refine wpAny_Call_Name_kw (ld_blt I hg hm PyProof.Rows.boot_max ?_ (by decide) (by decide))
  refine callWith_kw (thn (ha pos pins s σ H _ I h) fun us s1 ⟨vs, H1, I1, r1, q1⟩ => thn (hk pos pins s1 σ H1 _ I1 q1) fun ws s2 ⟨ds, H2, I2, r2, q2⟩ => ?_) he hpl hall hkw
  obtain ⟨a, ns, d, rfl, rfl, hp, q⟩ := q2
  rw [hks]
  obtain ⟨u, rfl, rx⟩ := vals1 r1
  cases rx
  obtain ⟨u', rfl, ⟨td, rfl⟩⟩ := vals1 r2
  obtain ⟨its, hi, hl, ee⟩ := Inv.listI I2 hp
  obtain ⟨xs, ex⟩ := hi.allInts.items
  have hns : ns = xs.toList.map (·.1) := by rw [← hi.numsOf, ← nums_intItems, ← ex]
  rw [ex] at hl
  show wpAny _ _ (call (.builtin "max") [.ref a] [(("default" : Str), .int d td)]) _ _ _
  refine call_maxD (I2.ok.hd hc) hl fun v h' tk hv kp => ?_
  rcases hv with ⟨hz, rfl⟩ | ⟨hz, hv⟩
  · have hn : ns = [] := by
      rw [hns]
      exact List.map_eq_nil_iff.mpr (List.eq_nil_of_length_eq_zero (by simpa using hz))
    exact ⟨.int d, H2, I2.kept kp, ⟨_, rfl⟩, q d (.inl ⟨hn, rfl⟩)⟩
  · obtain ⟨t, rfl⟩ := intItems_at hv
    obtain ⟨g1, g2⟩ := argBest_gt (numAt xs) (xs.size - 1)
    refine ⟨.int _, H2, I2.kept kp, ⟨_, rfl⟩, q _ (.inr ⟨?_, fun y hy => ?_⟩)⟩
    · rw [hns, numAt_eq]; exact getD_mem (by rw [List.length_map, Array.length_toList]; omega)
    · rw [hns] at hy
      obtain ⟨j, hj, rfl⟩ := mem_getD hy
      rw [List.length_map, Array.length_toList] at hj
      rw [← numAt_eq]; exact g2 j (by omega)
end
theorem compF_it {J : It} {k : Nat} {sel : List Nat} {g : TG} {tc : TT} {te : TE} {σ : L2.St} {Q : VK} {H : Hp} (n : Nat) (Pv : Nat → List V → L2.St → Hp → Prop) (hz : n ≤ sizeLine) (h0 : Pv 0 [] (capOf k sel σ) H) (hlen : ∀ i ys σ H, Pv i ys σ H → ys.length ≤ i)
    (hgo : ∀ i ys σ H, i < n → Pv i ys σ H → J.go i H) (hst : ∀ ys σ H, Pv n ys σ H → J.stop n H)
    (hs : ∀ i ys σ H v H' (C : List V → L2.St → Hp → Prop), i < n → Pv i ys σ H → J.yld i H v H' → (∀ ys σ H, Pv (i + 1) ys σ H → C ys σ H) → g v σ H' fun σ2 H2 => tc σ2 H2 fun b H3 => if b = true then te σ2 H3 fun y H4 => C (ys ++ [y]) σ2 H4 else C ys σ2 H3)
    (hd : ∀ ys σ H, Pv n ys σ H → ∀ p, H p = none → Q (.ref p) (upd H p (.lst ys))) : compGF k sel g tc te σ Q J H := by
  refine ⟨fun i m ys σ' H => m = n - i ∧ i ≤ n ∧ Pv i ys σ' H, ⟨n, by simp, Nat.zero_le _, h0⟩, ?_⟩
  rintro i m ys σ' H ⟨rfl, hi, p⟩
  by_cases hlt : i < n
  · exact .inr ⟨hgo i ys σ' H hlt p, by have := hlen i ys σ' H p; omega, fun v H' y => hs i ys σ' H v H' (fun ys σ2 H3 => ∃ m', m' < n - i ∧ m' = n - (i + 1) ∧ i + 1 ≤ n ∧ Pv (i + 1) ys σ2 H3) hlt p y fun ys σ2 H3 q => ⟨n - (i + 1), by omega, rfl, hlt, q⟩⟩
  · have e : i = n := by omega
    subst e
    exact .inl ⟨hst ys σ' H p, hd ys σ' H p⟩
section
variable {X : Cx} {fsc scope : Scope} {N xs ys : List Str} {sel : List Nat}
/-- y = [.. if ..] -/
theorem ps_compF {i : Nat} {y : Str} {elt iter tg cnd : Expr} {pos py spos : Pos} {te : TE} {tc : TT} {g : TG} {wi : TI} (S : CompSc fsc N xs ys sel scope) (eS : X.env.scope = fsc) (eN : X.N = N) (hc : X.calm = true) (hi : PI X tg iter wi)
    (hg : ∀ cl C s₀ H₀ ex pn, PG (cxC X (xs ++ ys) scope cl C s₀ H₀ ex pn) tg g) (he : ∀ cl C s₀ H₀ ex pn, PE (cxC X (xs ++ ys) scope cl C s₀ H₀ ex pn) elt te) (hcn : ∀ cl C s₀ H₀ ex pn, PT (cxC X (xs ++ ys) scope cl C s₀ H₀ ex pn) cnd tc)
    (hN : X.N.Nodup) (hiN : X.N[i]? = some y) (hy : X.env.scope.names.lookup y = some .local)
    (hsw : swapsWith (.ListComp elt [⟨tg, iter, [cnd], 0⟩] scope pos) (some (.Name y py)) spos.line X.env = pure true)
    (hs : ∀ x, foldedSetIterable iter X.env x = pure x := by intro _; rfl) : PS X (.Assign [.Name y py] (.ListComp elt [⟨tg, iter, [cnd], 0⟩] scope pos) spos) (tAsg (tCompF xs.length sel wi g tc te) (gName i)) := by
  intro pins s σ H D I h
  rw [exec_Assign_Name_used _ _ _ _ hsw]
  refine wpAny_bind (wpAny_standAt (wpAny_bind ?_))
  have hclos : closureFor scope X.env = pure (clsOf scope.names X.env []) := closure_eq fun z hz hk => I.ok.has z.1 (.inl (by rw [← eS] at S; exact S.free z hz hk))
  show wpAny _ X.A (do let _ ← comprehension (.ListComp elt [⟨tg, iter, [cnd], 0⟩] scope pos) scope X.env _ (newList []) false (eval iter X.env) (some (assign (.Name y py) X.env))) _ _ s
  refine wpAny_bind (wpAny_mono (wpAny_comprehension_free (use := some (assign (.Name y py) X.env)) (Q := fun _ s' => SP X pins D .next s') rfl hs hclos S.kind S.names
    (thn (hi pins s σ H _ I h) fun v s1 h1 => thn h1 fun itv s2 h2 => ?_)) (fun _ s' hq => wpAny_pure (wpAny_pure hq)) fun _ _ e => e)
  obtain ⟨it, fp, tn, J, H2, e, I2, T, st2, f2, W, w0, turn⟩ := h2
  subst e
  refine comp_coreF (Fin := fun ys H => ∀ p, H p = none → D.nx (σ.set i (some (.ref p))) (upd H p (.lst ys))) (RR := fun acc C => compPost (model X.prog X.w) X.A X.xe (some (assign (.Name y py) X.env)) (fun _ s' => SP X pins D .next s') acc C) S eS eN hc hg he hcn I2 T st2 f2 w0 turn ?_
  intro Da C s' zs H' m' fin nD IX hn hfp
  show wpAny _ X.A (assign (.Name y py) X.env (.ref Da)) _ _ _
  refine wpAny_assign_Name (store_ok2 (v := .ref Da) IX hN hiN (.inl hy) rfl (fun s'' I'' ⟨a, hsa, ha⟩ => ?_) (.inr hy))
  obtain ⟨f0, f1, f2, f3, f4, f5⟩ := hfp
  have aC : C ≠ a := by
    rcases ha with rfl | ha
    · exact f1
    · exact fun z => f4 y a ha z.symm
  refine ⟨m', hn.sameBut hsa aC, fun h' hsb => ?_⟩
  exact ⟨_, _, I''.turned (it := C) (t' := s''.toks) (fun b o hb e => hsb.extBut b o hb e) f0 f1 f3 f4 f5, fin Da nD⟩
end
end LX
namespace LX
open TM
def turn1 {α : Type} (T : List α) (x : Nat × Nat) : List α := T.take x.1 ++ ((T.drop x.1).take (x.2 - x.1)).reverse ++ T.drop x.2
theorem turn1_at {α : Type} (A B C : List α) : turn1 (A ++ (B ++ C)) (A.length, A.length + B.length) = A ++ (B.reverse ++ C) := by
  unfold turn1
  simp only
  rw [List.take_left' rfl, List.drop_left' rfl, show A.length + B.length - A.length = B.length by omega, List.take_left' rfl, ← List.drop_drop, List.drop_left' rfl, List.drop_left' rfl, List.append_assoc]
theorem turn_runs {α : Type} (q : α → Bool) : ∀ (xs pre : List α), ((pcsF pre.length none (xs.map q)).foldl turn1 (pre ++ xs) = pre ++ blk q List.reverse [] xs) ∧
    ∀ acc : List α, (pcsF (pre.length + acc.length) (some pre.length) (xs.map q)).foldl turn1 (pre ++ (acc ++ xs)) = pre ++ blk q List.reverse acc xs
  | [], pre => ⟨by simp [pcsF, blk], fun acc => by
      have := turn1_at pre acc []
      simp only [List.map_nil, pcsF, List.foldl_cons, List.foldl_nil, blk]
      rw [this]; simp⟩
  | x :: xs, pre => by
    refine ⟨?_, fun acc => ?_⟩
    · cases h : q x with
      | true =>
        have ih := (turn_runs q xs pre).2 [x]
        simp only [List.map_cons, h, pcsF, blk, cond_true, List.nil_append]
        simpa using ih
      | false =>
        have ih := (turn_runs q xs (pre ++ [x])).1
        simp only [List.map_cons, h, pcsF, blk, cond_false]
        simpa using ih
    · cases h : q x with
      | true =>
        have ih := (turn_runs q xs pre).2 (acc ++ [x])
        simp only [List.map_cons, h, pcsF, blk, cond_true]
        simpa [Nat.add_assoc] using ih
      | false =>
        have ih := (turn_runs q xs (pre ++ (acc.reverse ++ [x]))).1
        simp only [List.map_cons, h, pcsF, blk, cond_false, List.foldl_cons]
        rw [turn1_at pre acc (x :: xs)]
        have e : (pre ++ (acc.reverse ++ [x])).length = pre.length + acc.length + 1 := by simp; omega
        rw [e] at ih
        simpa using ih
theorem turn_blocks {α : Type} (q : α → Bool) (xs : List α) : (pcs (xs.map q)).foldl turn1 xs = blocks q List.reverse xs := (turn_runs q xs []).1
/-- the longest rows of neighbours among rising places -/
def lstep (acc : List (Nat × Nat)) (p : Nat) : List (Nat × Nat) := match acc.getLast? with
  | some y => if y.2 = p then acc.dropLast ++ [(y.1, p + 1)] else acc ++ [(p, p + 1)]
  | none => acc ++ [(p, p + 1)]
def lrows (ps : List Nat) : List (Nat × Nat) := ps.foldl lstep []
def plF : Nat → List Bool → List Nat
  | _, [] => []
  | k, true :: xs => k :: plF (k + 1) xs
  | k, false :: xs => plF (k + 1) xs
theorem lstep_new {acc : List (Nat × Nat)} {p : Nat} (h : ∀ y, acc.getLast? = some y → y.2 < p) : lstep acc p = acc ++ [(p, p + 1)] := by
  unfold lstep
  cases e : acc.getLast? with
  | none => rfl
  | some y =>
    have := h y e
    simp only
    rw [if_neg (by omega)]
theorem lstep_on (acc : List (Nat × Nat)) (b p : Nat) : lstep (acc ++ [(b, p)]) p = acc ++ [(b, p + 1)] := by
  unfold lstep
  rw [List.getLast?_concat]
  simp
theorem lrows_pcsF : ∀ (xs : List Bool) (k : Nat) (acc : List (Nat × Nat)), ((∀ y, acc.getLast? = some y → y.2 < k) → (plF k xs).foldl lstep acc = acc ++ pcsF k none xs) ∧ ∀ b, (plF k xs).foldl lstep (acc ++ [(b, k)]) = acc ++ pcsF k (some b) xs
  | [], k, acc => ⟨fun _ => by simp [plF, pcsF], fun b => by simp [plF, pcsF]⟩
  | true :: xs, k, acc => ⟨fun h => by
      have ih := (lrows_pcsF xs (k + 1) acc).2 k
      simp only [plF, pcsF, List.foldl_cons]
      rw [lstep_new h]; exact ih, fun b => by
      have ih := (lrows_pcsF xs (k + 1) acc).2 b
      simp only [plF, pcsF, List.foldl_cons]
      rw [lstep_on]; exact ih⟩
  | false :: xs, k, acc => ⟨fun h => by
      have ih := (lrows_pcsF xs (k + 1) acc).1 (fun y e => by have := h y e; omega)
      simp only [plF, pcsF]
      exact ih, fun b => by
      have ih := (lrows_pcsF xs (k + 1) (acc ++ [(b, k)])).1 (fun y e => by rw [List.getLast?_concat] at e; cases e; simp)
      simp only [plF, pcsF]
      rw [ih, List.append_assoc]; rfl⟩
theorem plF_range (q : Nat → Bool) : ∀ (n k : Nat), plF k ((List.range' k n).map q) = (List.range' k n).filter q
  | 0, k => rfl
  | n + 1, k => by
    have ih := plF_range q n (k + 1)
    rw [List.range'_succ, List.map_cons]
    cases h : q k with
    | true => rw [List.filter_cons_of_pos h]; simp only [plF]; rw [ih]
    | false => rw [List.filter_cons_of_neg (by rw [h]; decide)]; simp only [plF]; rw [ih]
theorem lrows_filter (q : Nat → Bool) (n : Nat) : lrows ((List.range n).filter q) = pcs ((List.range n).map q) := by
  have e := plF_range q n 0
  rw [← List.range_eq_range'] at e
  rw [← e]
  have := (lrows_pcsF ((List.range n).map q) 0 []).1 (fun y e => by simp at e)
  rw [List.nil_append] at this
  exact this
theorem blocks_pat {α : Type} {q r : α → Bool} {F : List α → List α} (hF : ∀ xs, (F xs).Perm xs) (hqr : ∀ x, q x = true → r x = true) : ∀ ps, (blocks q F ps).map r = ps.map r := by
  have one : ∀ xs, (∀ x ∈ xs, q x = true) → (F xs).map r = xs.map r := fun xs h => by
    have a : ∀ l : List α, (∀ x ∈ l, q x = true) → l.map r = List.replicate l.length true := fun l hl => List.eq_replicate_iff.mpr ⟨by simp, fun y hy => by
      obtain ⟨x, hx, rfl⟩ := List.mem_map.mp hy
      exact hqr x (hl x hx)⟩
    rw [a xs h, a (F xs) (fun x hx => h x ((hF xs).mem_iff.mp hx)), (hF xs).length_eq]
  refine dec_ind q (fun xs h => ?_) (fun xs p ys h hp ih => ?_)
  · rw [blocks_all h]; exact one xs h
  · rw [blocks_step h hp, List.map_append, List.map_append, List.map_cons, List.map_cons, one xs h, ih]
theorem ord_pat {lv : Nat → Int} {L : Int} : ∀ (f : Nat) (l : Int) (ps : List Nat), L ≤ l + 1 → (ord lv f l ps).map (fun p => decide (L ≤ lv p)) = ps.map (fun p => decide (L ≤ lv p))
  | 0, l, ps, _ => rfl
  | f + 1, l, ps, h => by
    refine blocks_pat (F := fun xs => (ord lv f (l + 1) xs).reverse) (fun xs => revPerm f (l + 1) xs) (fun x hx => ?_) ps
    have := of_decide_eq_true hx
    exact decide_eq_true (by omega)
/-- one level's turns, by the written places -/
theorem level_turns {lv : Nat → Int} {n f : Nat} {l : Int} : (lrows ((List.range n).filter fun p => decide (l + 1 ≤ lv p))).foldl turn1 (ord lv f (l + 1) (List.range n)) = ord lv (f + 1) l (List.range n) := by
  rw [lrows_filter, ← ord_pat f (l + 1) (List.range n) (by omega), turn_blocks]
  exact turn_ord (List.range n)
theorem pcsF_in : ∀ (xs : List Bool) (k : Nat), (∀ y ∈ pcsF k none xs, y.1 ≤ y.2 ∧ y.2 ≤ k + xs.length) ∧ ∀ b, b ≤ k → ∀ y ∈ pcsF k (some b) xs, y.1 ≤ y.2 ∧ y.2 ≤ k + xs.length
  | [], k => ⟨by simp [pcsF], fun b hb y hy => by simp [pcsF] at hy; subst hy; simpa using hb⟩
  | true :: xs, k => ⟨fun y hy => by
      have := (pcsF_in xs (k + 1)).2 k (by omega) y (by simpa [pcsF] using hy)
      simp only [List.length_cons]; omega, fun b hb y hy => by
      have := (pcsF_in xs (k + 1)).2 b (by omega) y (by simpa [pcsF] using hy)
      simp only [List.length_cons]; omega⟩
  | false :: xs, k => ⟨fun y hy => by
      have := (pcsF_in xs (k + 1)).1 y (by simpa [pcsF] using hy)
      simp only [List.length_cons]; omega, fun b hb y hy => by
      simp only [pcsF, List.mem_cons] at hy
      rcases hy with rfl | hy
      · simp only [List.length_cons]; omega
      · have := (pcsF_in xs (k + 1)).1 y hy
        simp only [List.length_cons]; omega⟩
theorem pcs_in {xs : List Bool} : ∀ y ∈ pcs xs, y.1 ≤ y.2 ∧ y.2 ≤ xs.length := fun y hy => by
  have := (pcsF_in xs 0).1 y hy
  omega
theorem turn1_len {α : Type} {T : List α} {x : Nat × Nat} (h1 : x.1 ≤ x.2) (h2 : x.2 ≤ T.length) : (turn1 T x).length = T.length := by
  unfold turn1
  simp only [List.length_append, List.length_take, List.length_reverse, List.length_drop]
  omega
end LX
namespace LX
open PySem PySem.Spec PyProof.Rows L2 TM
theorem Def.mono {P : Program} {w : World} {K : PySem.W.Frag} {mg : Str → Option Value} {base : Heap} {x : Str} {j k : Nat} {ps : List Str} {sp : Sp} (D : Def P w K mg base x j ps sp) (h : j ≤ k) : Def P w K mg base x k ps sp := by
  obtain ⟨f, fd, F, r⟩ := D
  exact ⟨f, fd, F.mono h, r⟩
theorem ix_last (n : Nat) : ixN (n + 1) (-1) = some n := by
  unfold ixN
  rw [if_neg (by omega), if_pos (by omega)]
  congr 1
  omega
theorem set_last {α : Type} (l : List α) (v u : α) : (l ++ [v]).set l.length u = l ++ [u] := by
  induction l with
  | nil => rfl
  | cons x l ih => simp [ih]
theorem toF_snoc (l : List (Nat × Nat)) (x : Nat × Nat) : toF (l ++ [x]) = toF l ++ [(some (x.1 : Int), some (x.2 : Int))] := by simp [toF]
theorem toF_get {l : List (Nat × Nat)} {i : Nat} {y : Face} (h : (toF l)[i]? = some y) : ∃ x, l[i]? = some x ∧ y = (some (x.1 : Int), some (x.2 : Int)) := by
  unfold toF at h
  rw [List.getElem?_map] at h
  cases e : l[i]? with
  | none => rw [e] at h; cases h
  | some x => rw [e] at h; exact ⟨x, rfl, (Option.some.inj h).symm⟩
theorem TupsAt.split {H : Hp} {as : List Addr} {prs : List Face} {x : Face} (h : TupsAt H as (prs ++ [x])) : ∃ as' a, as = as' ++ [a] ∧ TupsAt H as' prs ∧ H a = some (.tup [faceV x.1, faceV x.2]) := by
  induction prs generalizing as with
  | nil =>
    cases h with
    | cons r t => cases t; exact ⟨[], _, rfl, .nil, r⟩
  | cons y prs ih =>
    cases h with
    | cons r t =>
      obtain ⟨as', a, rfl, h1, h2⟩ := ih t
      exact ⟨_ :: as', a, rfl, .cons r h1, h2⟩
theorem lrows_snoc (ps : List Nat) (m : Nat) : lrows (ps ++ [m]) = lstep (lrows ps) m := by
  unfold lrows
  rw [List.foldl_append]
  rfl
theorem lrows_le (ps : List Nat) : (lrows ps).length ≤ ps.length := by
  have key : ∀ (ps : List Nat) (acc : List (Nat × Nat)), (ps.foldl lstep acc).length ≤ acc.length + ps.length := by
    intro ps
    induction ps with
    | nil => intro acc; simp
    | cons p ps ih =>
      intro acc
      have h1 : (lstep acc p).length ≤ acc.length + 1 := by
        unfold lstep
        split
        · split
          · simp
          · simp
        · simp
      have := ih (lstep acc p)
      simp only [List.foldl_cons, List.length_cons]
      omega
  have := key ps []
  simpa [lrows] using this
def spRows (K : PySem.W.Frag) : Sp := fun vs H Q _ => ∃ (a : Addr) (ps : List Nat), vs = [.ref a] ∧ SqL K H a (vN ps) ∧ ps.length ≤ 60 ∧ ∀ (p : Addr) (as : List Addr) (H' : Hp), Same H H' → H p = none → H' p = some (.lst (as.map V.ref)) → TupsAt H' as (toF (lrows ps)) → Q (.ref p) H'
def spTurn (K : PySem.W.Frag) : Sp := fun vs H Q _ => ∃ (a : Addr) (T : List Nat) (x : Nat × Nat), vs = [.ref a, .int (x.1 : Int), .int (x.2 : Int)] ∧ SqL K H a (vN T) ∧ x.1 ≤ x.2 ∧ x.2 ≤ T.length ∧ T.length ≤ 60 ∧ ∀ (p : Addr) (H' : Hp), Same H H' → H p = none → H' p = some (.lst (vN (turn1 T x))) → Q (.ref p) H'
theorem cut_to (T : List Nat) {i : Nat} (h : i ≤ T.length) : cutV (vN T) none (some (i : Int)) = vN (T.take i) := by
  unfold cutV
  rw [HT.sIx_none, HT.sIx_nat, vN_len, Nat.min_eq_left h]
  show ((T.map _).drop _).take _ = _
  rw [List.drop_zero, ← List.map_take]
  rfl
theorem cut_from (T : List Nat) {i : Nat} (h : i ≤ T.length) : cutV (vN T) (some (i : Int)) none = vN (T.drop i) := by
  unfold cutV
  rw [HT.sIx_none, HT.sIx_nat, vN_len, Nat.min_eq_left h]
  show ((T.map _).drop _).take _ = _
  rw [← List.map_drop, List.take_of_length_le (by simp)]
theorem cut_mid (T : List Nat) {i j : Nat} (h : i ≤ j) (h' : j ≤ T.length) : cutV (vN T) (some (i : Int)) (some (j : Int)) = vN ((T.drop i).take (j - i)) := by
  rw [vN_cut, Nat.min_eq_left h', Nat.min_eq_left (Nat.le_trans h h')]
/-- the places of a level or more -/
def highs (row : List Int) (L : Int) (n : Nat) : List Nat := (List.range n).filter fun p => decide (L ≤ lvl row p)
theorem highs_len (row : List Int) (L : Int) (n : Nat) : (highs row L n).length ≤ n := by
  have := List.length_filter_le (fun p => decide (L ≤ lvl row p)) (List.range n)
  rwa [List.length_range] at this
theorem highs_succ (row : List Int) (L : Int) (n : Nat) : highs row L (n + 1) = highs row L n ++ (if L ≤ lvl row n then [n] else []) := by
  unfold highs
  rw [List.range_succ, List.filter_append]
  congr 1
  by_cases h : L ≤ lvl row n
  · rw [if_pos h, List.filter_cons_of_pos (by simpa using h)]; rfl
  · rw [if_neg h, List.filter_cons_of_neg (by simpa using h)]; rfl
theorem highs_rows (row : List Int) (L : Int) : ∀ y ∈ lrows (highs row L row.length), y.1 ≤ y.2 ∧ y.2 ≤ row.length := by
  unfold highs
  rw [lrows_filter]
  intro y hy
  have := pcs_in y hy
  rwa [List.length_map, List.length_range] at this
theorem highs_turn (row : List Int) (f : Nat) (L : Int) : (lrows (highs row L row.length)).foldl turn1 (ord (lvl row) f L (List.range row.length)) = ord (lvl row) (f + 1) (L - 1) (List.range row.length) := by
  have := level_turns (lv := lvl row) (n := row.length) (f := f) (l := L - 1)
  rw [show L - 1 + 1 = L by omega] at this
  exact this
theorem turns_len {T : List Nat} : ∀ {l : List (Nat × Nat)}, (∀ y ∈ l, y.1 ≤ y.2 ∧ y.2 ≤ T.length) → (l.foldl turn1 T).length = T.length := by
  intro l
  induction l generalizing T with
  | nil => intro _; rfl
  | cons x l ih =>
    intro h
    have hx := h x (by simp)
    have e := turn1_len hx.1 hx.2
    rw [List.foldl_cons, ih (fun y hy => by rw [e]; exact h y (by simp [hy])), e]
theorem foldl_take_succ {α β : Type} (f : β → α → β) (b : β) {l : List α} {i : Nat} {x : α} (h : l[i]? = some x) : (l.take (i + 1)).foldl f b = f ((l.take i).foldl f b) x := by
  rw [take_snoc h, List.foldl_append]
  rfl
theorem row_get {row : List Int} {i : Nat} {x : V} (h : (vI row)[i]? = some x) : x = V.int (lvl row i) := by
  obtain ⟨n, hn, rfl⟩ := ints_get h
  unfold lvl
  rw [List.getD_eq_getElem?_getD, hn]
  rfl
theorem theOrd_top {row : List Int} (h : RowOk row) {M : Int} (hM : (row = [] ∧ M = 0) ∨ (M ∈ row ∧ ∀ y ∈ row, y ≤ M)) : 0 ≤ M ∧ M ≤ 9 ∧ ord (lvl row) M.toNat 0 (List.range row.length) = theOrd row := by
  have hb : 0 ≤ M ∧ M ≤ 9 := by
    rcases hM with ⟨_, rfl⟩ | ⟨hm, _⟩
    · decide
    · exact ⟨h.lo M hm, h.hi M hm⟩
  refine ⟨hb.1, hb.2, ?_⟩
  unfold theOrd
  refine (ord_fuel (fun p hp => ?_) 9 (by omega)).symm
  have hp := List.mem_range.mp hp
  rcases hM with ⟨rfl, _⟩ | ⟨_, hm⟩
  · simp at hp
  · have e : lvl row p ∈ row := by
      unfold lvl
      rw [List.getD_eq_getElem?_getD, List.getElem?_eq_getElem hp]
      exact List.getElem_mem hp
    have := hm _ e
    omega
end LX
namespace LX
open PySem PySem.Spec PyProof.Rows L2
/-- what stays of the heap while the exception at ea flies; B: the heap without the frames -/
structure Fly (P : Program) (w : World) (outer : List Env) (H : Hp) (s : Shared) (H' : Hp) (ea : Addr) (B h : Heap) : Prop where
  un : Un (frs outer) [] H H' s.heap h
  hok : HOk P w H' h
  same : Same H H'
  cov1 : ∀ b u, H' b = some u → ∃ o, h.get? b = some o ∧ B.get? b = some o
  cov2 : ∀ b o, s.heap.get? b = some o → H b = none → b ∉ frs outer → B.get? b = some o
  new : s.heap.get? ea = none
theorem Fly.next {P : Program} {w : World} {outer : List Env} {H H' : Hp} {s : Shared} {ea : Addr} {B h h' base : Heap} (x : Fly P w outer H s H' ea B h) (st : B.StaysIn h') (up : h.UpToSlots h') (fr : h.FunFrames base outer) : Fly P w outer H s H' ea B h' := by
  have kt : ∀ b u o, H' b = some u → h.get? b = some o → h'.get? b = some o := fun b u o e q => by
    obtain ⟨o', e1, e2⟩ := x.cov1 b u e
    rw [e1] at q
    cases q
    exact st b o e2
  have ks : ∀ b o, s.heap.get? b = some o → H b = none → b ∈ frs outer → ∃ sl, h'.get? b = some { o with slots := sl } := fun b o e n hb => by
    obtain ⟨sl, e1⟩ := x.un.slot b o e n hb (by simp)
    obtain ⟨_, o2, e2, nf⟩ := fr.mem hb
    rw [e1] at e2
    cases e2
    obtain ⟨sl2, e3⟩ := up b _ e1 nf
    exact ⟨sl2, e3⟩
  refine ⟨⟨fun b o e n hb _ => st b o (x.cov2 b o e n hb), fun b o e n hb _ => ks b o e n hb, x.un.free, fun b o e _ => ?_, x.un.tups, x.un.frzs, x.un.tbls⟩, fun a u e => ?_, x.same, fun b u e => ?_, x.cov2, x.new⟩
  · cases q : H b with
    | none =>
      by_cases hb : b ∈ frs outer
      · obtain ⟨sl, e1⟩ := ks b o e q hb
        exact ⟨_, e1⟩
      · exact ⟨o, st b o (x.cov2 b o e q hb)⟩
    | some u =>
      obtain ⟨o', _, e2⟩ := x.cov1 b u (x.same b u q)
      exact ⟨o', st b o' e2⟩
  · refine (x.hok a u e).stay (fun b v hb q => ?_) (fun _ q => q) fun _ _ q => q
    rcases hb with rfl | hb
    · exact kt b u v e q
    · exact kt b _ v hb q
  · obtain ⟨o, _, e2⟩ := x.cov1 b u e
    exact ⟨o, st b o e2, e2⟩
theorem there_of {P : Program} {w : World} {H : Hp} {h : Heap} {a : Addr} {o : HO} (x : ObjOk P w H h a o) : ∃ u, h.get? a = some u := by
  cases o with
  | lst xs => exact ⟨_, x.2.choose_spec.choose_spec.2⟩
  | tup xs =>
    obtain ⟨_, _, _, ob, e, _⟩ := x
    exact ⟨ob, e⟩
  | dK kvs =>
    obtain ⟨_, _, _, _, ob, _, _, e, _⟩ := x
    exact ⟨ob, e⟩
  | dT kvs =>
    obtain ⟨_, _, _, _, ob, _, _, e, _⟩ := x
    exact ⟨ob, e⟩
  | set S n =>
    obtain ⟨ob, _, _, _, e, _⟩ := x
    exact ⟨ob, e⟩
  | ins C dx fs => exact ⟨_, x.2.2.2.1⟩
  | own y => exact x
  | xd fs =>
    obtain ⟨_, ⟨ob, _, _, e, _⟩, _⟩ := x
    exact ⟨ob, e⟩
  | rng lo hi =>
    obtain ⟨_, _, _, e⟩ := x
    exact ⟨_, e⟩
  | frz ob u => exact ⟨ob, x.1⟩
  | tbl ps => exact ⟨_, x⟩
  | met f y => exact ⟨_, x⟩
  | ext φ => exact x.2.1
/-- behind a call that may have raised an exception of an own class -/
def CX1 (P : Program) (w : World) : CXT := fun outer H s E e s' => ∃ (ea C : Addr) (a0 : Value) (H' : Hp) (B : Heap), e = .ref ea ∧ s'.os = s.os ∧ AllBare s'.gens ∧ Fly P w outer H s H' ea B s'.heap ∧ Heap.FlyingW B outer ea (.ref C) a0 s'.heap ∧ E (.ref C) none H'
/-- an own class of exceptions, by the fragment -/
theorem exc_there {K : PySem.W.Frag} {h : Heap} {C : Addr} {bmB : List Value} {nid : String} (hK : K.In h) (hq : PySem.W.excIn K C bmB nid = true) :
    ∃ (bm : List Value) (N : Addr) (nm qn : Str) (bs : List Value) (hd : Bool) (sn : List Str) (sub : List Value) (ab : Bool) (col : Option Bool) (dd : Option Addr) (k0 k1 k2 k3 k5 : Option Value) (mN : Str → Option Value),
      h.get? C = some (excClassObj nm qn C N bs bm hd sn sub ab col dd k0 k1 k2 k3 k5 nid) ∧ h.Ns N mN ∧ mN "__init__" = none ∧ OwnTail h bmB bm := by
  unfold PySem.W.excIn at hq
  split at hq
  case h_2 => cases hq
  rename_i d1 c1 l1 look
  split at hq
  case h_2 => cases hq
  rename_i C2 tl a0 a1 a2 a3 n1 a5 em es
  rw [Bool.and_eq_true, Bool.and_eq_true, Bool.and_eq_true, Bool.and_eq_true, Bool.and_eq_true] at hq
  obtain ⟨⟨⟨⟨⟨r1, r2⟩, r3⟩, r4⟩, r5⟩, r6⟩ := hq
  have r1 : C2 = C := eq_of_beq r1
  have r2 : n1 = nid := eq_of_beq r2
  have r6 : PySem.W.nsIn K c1.ns "__init__" = some none := eq_of_beq r6
  subst r1 r2
  have el : l1 = #[a0, a1, a2, a3, some (.builtin n1), a5] := by
    cases l1 with
    | mk l => exact congrArg Array.mk es
  subst el
  cases c1 with
  | mk nm bs mro ns qn hd sn sub ab col del =>
    have em : mro = .ref C2 :: tl := em
    have ed : del = false := by simpa using r3
    subst em ed
    exact ⟨tl, ns, nm, qn, bs, hd, sn, sub, ab, col, d1, a0, a1, a2, a3, a5, _, hK _ _ look, .of_isNs (PySem.W.isNs_of_in hK r5), PySem.W.nsMap_none_of_in hK r5 r6, PySem.W.tail_of_in hK r4⟩
end LX
namespace LX
open PySem PySem.Spec PyProof.Rows L2
/-- raise C(..), in the body of a def -/
def tRaise (H0 : Hp) (E : XK) (C : Addr) (t : TA) : TS := fun _ σ H => t σ H fun vs H1 => vs.length ≤ sizeLine ∧ Same H0 H1 ∧ E (.ref C) none H1
theorem ps_raise {P : Program} {w : World} {K : PySem.W.Frag} {mg : Str → Option Value} {base : Heap} {N : List Str} {qual : Str} {scope : Scope} {f : Addr} {cd : Value} {A : Around} {outer : List Env} {s0 : Shared} {H0 : Hp} {E : XK} {C : Addr} {x : Str} {np cpos pos : Pos} {e : Expr} {es : List Expr} {t : TA}
    {B nid iid : String} {bmB : List Value} (Fx : ExcBaseFacts B nid iid bmB) (hq : PySem.W.excIn K C bmB nid = true) (hm : mg x = some (.ref C)) (hg : Gl (cxOf (CX1 P w) P w K mg base N qual scope f cd A outer s0 H0 E) x)
    (ha : PA (cxOf (CX1 P w) P w K mg base N qual scope f cd A outer s0 H0 E) (e :: es) t) (hdb : (x == ("__debug__" : Str)) = false)
    (he : starEach (e :: es) (envOfC qual scope s0.heap.objs.size f cd) = (false, eval e (envOfC qual scope s0.heap.objs.size f cd)) :: starEach es (envOfC qual scope s0.heap.objs.size f cd))
    (hpl : (backTo cpos (starEach es (envOfC qual scope s0.heap.objs.size f cd))).any (·.1) = false) :
    PS (cxOf (CX1 P w) P w K mg base N qual scope f cd A outer s0 H0 E) (.Raise (some (.Call (.Name x np) (e :: es) [] cpos)) none pos) (tRaise H0 E C t) := by
  intro pins s σ H D I h
  obtain ⟨bm, N1, nm, qn, bs, hd, sn, sub, ab, col, dd, k0, k1, k2, k3, k5, mN, hC, hN, hni, T⟩ := exc_there I.ok.mod.kin hq
  refine wpAny_Raise_call_subT (C := C) (nm := nm) (q := qn) (N := N1) (bs := bs) (bm := bm) (hdct := hd) (sn := sn) (sub := sub) (ab := ab) (col := col) (dd := dd) (k0 := k0) (k1 := k1) (k2 := k2) (k3 := k3) (k5 := k5) (mN := mN) Fx (T.hasType Fx.hasBase) (I.ok.hd rfl) ?_ hni ?_
  · show (backTo cpos (starEach (e :: es) (envOfC qual scope s0.heap.objs.size f cd))).any (·.1) = false
    rw [he]
    show (false || (backTo cpos (starEach es (envOfC qual scope s0.heap.objs.size f cd))).any (·.1)) = false
    rw [hpl]
    rfl
  · refine ld_glob I hg hm ⟨rfl, ?_⟩ hdb
    have h2 := ha cpos pins s σ H _ I h
    show wpAny _ _ (evalArgs (.ref C) true (backTo cpos (starEach (e :: es) (envOfC qual scope s0.heap.objs.size f cd))) []) _ _ s
    have h2 : wpAny (model P w) (A.deeper (envOfC qual scope s0.heap.objs.size f cd)) (spliced (backTo cpos (starEach (e :: es) (envOfC qual scope s0.heap.objs.size f cd)))) _ _ s := h2
    rw [he] at h2 ⊢
    refine Calls.evalArgs_plain (thn h2 fun us s2 ⟨vs, H2, I2, r2, hz, sm, hE⟩ => ⟨rfl, ?_, I2.bk _ _ hC, hN.keeps I2.bk, T.keeps I2.bk, fun h' ea hx => ?_⟩)
    · show us.length ≤ sizeLine
      rw [← r2.length]
      exact hz
    · have hst := I2.stack
      have fin : ∀ b, b ∈ frs (envOfC qual scope s0.heap.objs.size f cd :: outer) → H2 b = none := fun b hb => I2.stkFree b hb
      have hin : ∀ v ∈ (envOfC qual scope s0.heap.objs.size f cd :: outer), ∀ b, v.frame = some b → b ∈ frs (envOfC qual scope s0.heap.objs.size f cd :: outer) := fun v hv b hb => List.mem_filterMap.mpr ⟨v, hv, hb⟩
      have fl : Fly P w outer H0 s0 H2 ea (PySem.W.hideAll s2.heap (frs (envOfC qual scope s0.heap.objs.size f cd :: outer))) s2.heap := by
        refine ⟨I2.base, I2.hok, sm, fun b u q => ?_, fun b o q n nb => ?_, ?_⟩
        · obtain ⟨o, ho⟩ := there_of (I2.hok b u q)
          exact ⟨o, ho, PySem.W.hideAll_get _ ho fun hb => by rw [fin b hb] at q; cases q⟩
        · refine PySem.W.hideAll_get _ (I2.base.keep b o q n nb (by intro z; cases z)) fun hb => ?_
          rcases List.mem_cons.mp (I2.stkSub b hb) with z | z
          · have := I2.ok.above
            rw [← z] at this
            exact absurd (Nat.lt_of_lt_of_le (Heap.lt_size q) this) (Nat.lt_irrefl _)
          · exact nb z
        · cases eo : s0.heap.get? ea with
          | none => rfl
          | some o =>
            obtain ⟨o', ho'⟩ := I2.base.there ea o eo (by intro z; cases z)
            rw [hx.new] at ho'
            cases ho'
      refine wpAny_leaves_madeW (base := PySem.W.hideAll s2.heap (frs (envOfC qual scope s0.heap.objs.size f cd :: outer))) (h := s2.heap) I2.ok.frames rfl (fun b o q => PySem.W.of_hideAll _ q) (PySem.W.funFrames_hide hst hin) hx fun h'' t y1 y2 y3 y4 => ?_
      refine ⟨ea, C, .ref t, H2, _, rfl, I2.os, I2.bare, fl.next y1.1 ((Heap.UpToSlots.of_keeps hx.keeps).trans y4) I2.funs, y1, hE⟩
end LX
namespace LX
open PySem PySem.Spec PyProof.Rows L2
section
variable {P : Program} {w : World} {K : PySem.W.Frag} {mg : Str → Option Value} {base : Heap}
/-- a def that may raise: its body as a term of rules, and its reading -/
theorem ok1 {x qual : Str} {st : Stmt} {f : Addr} {fd : FuncData} {N ps : List Str} {k : Nat} {sp : Sp} (F : Fun K x qual st f fd) (S : FnScope N ps (defScope st)) (len : ∀ vs H Q E, sp vs H Q E → vs.length = ps.length)
    (hb : ∀ (cdv : Value) (A : Around) (outer : List Env) (s : Shared) (H : Hp) (vs : List V) (Q : VK) (E : XK), Room k (A.deeper (envOfC qual (defScope st) s.heap.objs.size f cdv)) → sp vs H Q E →
      ∃ t, PSs (cxOf (CX1 P w) P w K mg base N qual (defScope st) f cdv A outer s H E) (defBody st) t ∧ t { nx := fun _ H' => Q .non H', rt := Q } (start N vs) H) : FnOk P w K mg base (CX1 P w) (k + 1) f fd ps sp := by
  obtain ⟨oc, od, kV, doc, pm, an, cdv, ct, osl, e, lk, hcd⟩ := F.ex
  subst e
  exact fn_of lk hcd S len fun A outer s H vs Q E hr hsp => hb cdv A outer s H vs Q E hr hsp
/-- an exception of a callee goes on to the caller's caller -/
theorem pass1 {N : List Str} {qual : Str} {scope : Scope} {f : Addr} {cd : Value} {A : Around} {outer : List Env} {s0 : Shared} {H0 : Hp} {E : XK} :
    Passes (CX1 P w) (cxOf (CX1 P w) P w K mg base N qual scope f cd A outer s0 H0 E) (fun c a H' => Same H0 H' ∧ E c a H') := by
  intro pins σ H s e s' I h
  obtain ⟨ea, C, a0, H', B, rfl, h1, h2, fl, fw, sm, hE⟩ := h
  have nl : ∀ b o, s0.heap.get? b = some o → b ∉ frs outer → b ∉ frs (envOfC qual scope s0.heap.objs.size f cd :: outer) := fun b o q nb hb => by
    rcases List.mem_cons.mp (I.stkSub b hb) with z | z
    · have := I.ok.above
      rw [← z] at this
      exact absurd (Nat.lt_of_lt_of_le (Heap.lt_size q) this) (Nat.lt_irrefl _)
    · exact nb z
  have sub : ∀ b, b ∈ frs outer → b ∈ frs (envOfC qual scope s0.heap.objs.size f cd :: outer) := fun b hb => List.mem_cons_of_mem _ hb
  have ub : Un (frs outer) [] H0 H s0.heap s.heap := I.base
  have fl0 : Fly P w outer H0 s0 H' ea B s'.heap := by
    refine ⟨⟨fun b o q n nb _ => ?_, fun b o q n hb _ => ?_, fun b o q n _ => ?_, fun b o q _ => ?_, fun b xs q => fl.un.tups b xs (ub.tups b xs q), fun b o u q => fl.un.frzs b o u (ub.frzs b o u q), fun b p q => ?_⟩, fl.hok, sm, fl.cov1, fun b o q n nb => ?_, ?_⟩
    · exact fl.un.keep b o (ub.keep b o q n nb (by simp)) (ub.free b o q n (by simp)) (nl b o q nb) (by simp)
    · obtain ⟨sl, q1⟩ := ub.slot b o q n hb (by simp)
      obtain ⟨sl2, q2⟩ := fl.un.slot b _ q1 (ub.free b o q n (by simp)) (sub b hb) (by simp)
      exact ⟨sl2, q2⟩
    · obtain ⟨o', q1⟩ := ub.there b o q (by simp)
      exact fl.un.free b o' q1 (ub.free b o q n (by simp)) (by simp)
    · obtain ⟨o', q1⟩ := ub.there b o q (by simp)
      exact fl.un.there b o' q1 (by simp)
    · obtain ⟨m1, q1⟩ := ub.tbls b p q
      obtain ⟨m2, q2⟩ := fl.un.tbls b _ q1
      exact ⟨m1 ++ m2, by rw [q2, Array.append_assoc]⟩
    · exact fl.cov2 b o (ub.keep b o q n nb (by simp)) (ub.free b o q n (by simp)) (nl b o q nb)
    · cases eo : s0.heap.get? ea with
      | none => rfl
      | some o =>
        obtain ⟨o', q1⟩ := ub.there ea o eo (by simp)
        rw [fl.new] at q1
        cases q1
  refine wpAny_leaves_onW I.ok.frames rfl fw fun h' y1 y2 => ?_
  exact ⟨ea, C, a0, H', B, rfl, h1.trans I.os, h2, fl0.next (base := B) y1.1 y2 fw.2.2.1.2.2, y1, hE⟩
end
end LX
namespace LX
open PySem PySem.Spec PyProof.Rows L2
/-- an exception of the class at C, caught -/
def excO (C ea : Addr) : HO := .ext fun h => ∃ o, h.get? ea = some o ∧ o.cls = .ref C
/-- the context of an except suite -/
def marked (X : Cx) (ea : Addr) : Cx := { X with A := X.A.mark (some (.ref ea)), calm := false, xe := fun _ _ => False }
section
variable {X : Cx} {pins : List (Addr × Obj)} {σ : L2.St} {H : Hp} {s : Shared}
theorem inv_marked {ea : Addr} (I : Inv X pins σ H s) : Inv (marked X ea) pins σ H s :=
  ⟨⟨I.ok.mod, I.ok.kind, I.ok.glob, I.ok.blt, I.ok.above, I.ok.inj, I.ok.has, I.ok.cab, (fun z => absurd z Bool.false_ne_true), I.ok.frames, I.ok.stk, I.ok.exf, I.ok.bs, I.ok.bsz, I.ok.noex, I.ok.exfs, I.ok.funs, I.ok.frf⟩,
    I.os, I.bare, I.base, I.loc, I.cell, I.free, I.freeC, I.pin, I.hok, I.len⟩
theorem inv_unmarked {ea : Addr} (I : Inv (marked X ea) pins σ H s) (hd : X.calm = true → X.A.handled = none) : Inv X pins σ H s :=
  ⟨⟨I.ok.mod, I.ok.kind, I.ok.glob, I.ok.blt, I.ok.above, I.ok.inj, I.ok.has, I.ok.cab, hd, I.ok.frames, I.ok.stk, I.ok.exf, I.ok.bs, I.ok.bsz, I.ok.noex, I.ok.exfs, I.ok.funs, I.ok.frf⟩,
    I.os, I.bare, I.base, I.loc, I.cell, I.free, I.freeC, I.pin, I.hok, I.len⟩
/-- the name goes when the suite has ended -/
theorem name_off {M : Model} {A : Around} {E : Value → Shared → Prop} {i : Nat} {n : Str} {pos : Pos} {Q : Unit → Shared → Prop} (I : Inv X pins σ H s) (hN : X.N.Nodup) (hi : X.N[i]? = some n) (hx : X.env.scope.names.lookup n = some .local)
    (h : ∀ s', Inv X pins (σ.set i none) H s' → Q () s') : wpAny M A (do bindName X.env n .none; unbindBehindTheSuite X.env n pos) Q E s := by
  obtain ⟨m, hm, hv⟩ := I.loc
  have hk : (X.env.scope.kind == .class || (X.env.scope.kind == .module && X.env.locals != X.env.globals)) = false := by
    rw [I.ok.kind]
    rfl
  refine wpAny_nameGoes_keeps hx hm hk fun h' v hn hs => h _ ?_
  have nb : ∀ b, (∃ o, X.s₀.heap.get? b = some o) → b ≠ X.env.locals := fun b ⟨o, q⟩ z => by
    have := I.ok.above
    rw [← z] at this
    exact absurd (Nat.lt_of_lt_of_le (Heap.lt_size q) this) (Nat.lt_irrefl _)
  have oth : ∀ b o, b ≠ X.env.locals → s.heap.get? b = some o → h'.get? b = some o := fun b o hb q => (hs.2 b hb).trans q
  refine ⟨I.ok, I.os, I.bare, ⟨fun b o q n1 n2 n3 => ?_, fun b o q n1 n2 n3 => ?_, I.base.free, fun b o q n1 => ?_, I.base.tups, I.base.frzs, I.base.tbls⟩, ⟨_, hn, fun j y vv hj hσ hvis => ?_⟩, fun y c q => ?_, I.free, I.freeC, fun p hp => ?_, fun b u q => ?_, ?_⟩
  · exact oth b o (nb b ⟨o, q⟩) (I.base.keep b o q n1 n2 n3)
  · obtain ⟨sl, q1⟩ := I.base.slot b o q n1 n2 n3
    exact ⟨sl, oth b _ (nb b ⟨o, q⟩) q1⟩
  · obtain ⟨o', q1⟩ := I.base.there b o q n1
    exact ⟨o', oth b o' (nb b ⟨o, q⟩) q1⟩
  · have hji : j ≠ i := fun z => by
      rw [z] at hσ
      rw [List.getElem?_set] at hσ
      split at hσ
      · split at hσ <;> cases hσ
      · rename_i z2; exact z2 rfl
    have hσ' : σ[j]? = some (some vv) := by
      rw [List.getElem?_set_ne (Ne.symm hji)] at hσ
      exact hσ
    have hyn : y ≠ n := fun z => hji (nodup_ix hN (z ▸ hj) hi)
    obtain ⟨u, r, lk⟩ := hv j y vv hj hσ' hvis
    refine ⟨u, r, ?_⟩
    rcases lk with ⟨k1, k2⟩ | ⟨k1, c, k2, o, k3, k4⟩
    · exact .inl ⟨k1, by show (if y = n then v else m y) = some u; rw [if_neg hyn]; exact k2⟩
    · exact .inr ⟨k1, c, k2, o, oth c o (I.cne y c k2) k3, k4⟩
  · obtain ⟨vv, o, q1, q2⟩ := I.cell y c q
    exact ⟨vv, o, oth c o (I.cne y c q) q1, q2⟩
  · obtain ⟨q1, q2, q3, q4, q5⟩ := I.pin p hp
    exact ⟨oth _ _ q3 q1, q2, q3, q4, q5⟩
  · have hbl : b ≠ X.env.locals := fun z => by rw [z, I.free] at q; cases q
    refine (I.hok b u q).stay (fun c vv hc q1 => oth c vv ?_ q1) (fun _ q1 => q1) fun _ _ q1 => q1
    rcases hc with rfl | hc
    · exact hbl
    · exact fun z => by rw [z, I.free] at hc; cases hc
  · rw [List.length_set]
    exact I.len
/-- try: g(..) except cn as n: suite -/
def tTry (K : PySem.W.Frag) (i : Nat) (sp : Sp) (Dc : Addr) (t : TA) (ts : Addr → TS) : TS := fun D σ H => t σ H fun vs H1 => sp vs H1 (fun _ H2 => D.nx σ H2)
  fun c _ H2 => ∃ C, c = .ref C ∧ PySem.W.exmOne K (.ref C) (.ref Dc) = some true ∧ ∀ ea, H2 ea = none → ts ea { nx := fun σ' H' => D.nx (σ'.set i none) H', rt := fun _ _ => False } (σ.set i (some (.ref ea))) (upd H2 ea (excO C ea))
theorem ps_try {g cn n : Str} {gp cpos epos np hpos pos : Pos} {a : Expr} {as : List Expr} {b0 : Stmt} {suite : List Stmt} {t : TA} {ts : Addr → TS} {k i : Nat} {f Dc : Addr} {fd : FuncData} {ps : List Str} {sp : Sp}
    (F : FnOk X.prog X.w X.K X.mg X.base (CX1 X.prog X.w) k f fd ps sp) (hr : Room k X.A) (hg : Gl X g) (hm : X.mg g = some (.ref f)) (hk : PySem.W.keepIn X.K (.ref f) = true) (hb : Binds X.K fd ps []) (ha : PA X.nox (a :: as) t)
    (hgc : Gl X cn) (hmc : X.mg cn = some (.ref Dc)) (hN : X.N.Nodup) (hi : X.N[i]? = some n) (hx : X.env.scope.names.lookup n = some .local) (hst : X.stack = X.env :: X.outer) (hfr : X.env.frame = some X.env.locals)
    (hs : ∀ ea, PSs (marked X ea) (b0 :: suite) (ts ea)) (hdb : (g == ("__debug__" : Str)) = false) (hdc : (cn == ("__debug__" : Str)) = false)
    (he : starEach (a :: as) X.env = (false, eval a X.env) :: starEach as X.env) (hpl : (backTo cpos (starEach as X.env)).any (·.1) = false) (hsw : swapsWith (.Call (.Name g gp) (a :: as) [] cpos) none epos.line X.env = pure false) :
    PS X (.Try [.Expr (.Call (.Name g gp) (a :: as) [] cpos) epos] [.ExceptHandler (some (.Name cn np)) (some n) (b0 :: suite) hpos] [] [] pos) (tTry X.K i sp Dc t ts) := by
  intro pins s σ H D I h
  refine wpAny_Try_except ?_
  refine wpAny_execs_cons (wpAny_Expr_any ?_ I.quiet hsw)
  refine wpAny_Call_Name_kw (ld_glob I hg hm ?_ hdb)
  refine PySem.W.callWith_K (h₀ := X.base) I.ok.mod.kin hk (wpAny_mono (ha cpos pins s σ H _ (I.wish _) h) (fun us s1 q => ?_) fun _ _ z => z.elim) he hpl
  obtain ⟨vs, H1, I1, r, q⟩ := q
  have I1 : Inv X pins σ H1 s1 := I1.unwish
  refine ⟨I1.kIn, ?_⟩
  have hl : us.length = ps.length := by
    rw [← r.length]
    exact F.len _ _ _ _ q
  have hl2 : (us ++ ([] : List Value)).length = ps.length := by rw [List.append_nil]; exact hl
  have bnd := hb s1 us I1.kIn hl2
  rw [List.append_nil] at bnd
  refine wpAny_call (codeAny_mono (F.run X.A X.stack s1 H1 ⟨us, []⟩ us vs _ _ hr I1.env0 bnd r q) fun res s2 hq => ?_)
  cases res with
  | ok fl =>
    cases fl with
    | ret u =>
      obtain ⟨v, H2, I2, _, q2⟩ := I1.after hq
      exact wpAny_execs_nil (wpAny_execs_nil ⟨σ, H2, I2, q2⟩)
    | next => exact False.elim hq
    | brk => exact False.elim hq
    | cont => exact False.elim hq
  | error e =>
    obtain ⟨ea, C, a0, H2, B, rfl, ho2, hb2, fl, fw, C', eC, hex, suit⟩ := hq
    cases eC
    have hea : H2 ea = none := by
      cases q1 : H2 ea with
      | none => rfl
      | some u =>
        obtain ⟨o, _, q2⟩ := fl.cov1 ea u q1
        rw [fw.2.1] at q2
        cases q2
    have fw' : Heap.FlyingW B (X.env :: X.outer) ea (.ref C) a0 s2.heap := hst ▸ fw
    refine wpAny_looks_onW (by rw [I.ok.frames, hst]) hfr fw' fun h4 held up4 => ?_
    have fl4 := fl.next (base := B) held.1 up4 fw.2.2.1
    refine wpAny_landsW held fun h5 fw5 up5 => ?_
    have fl5 := fl4.next (base := B) fw5.1 up5 (by rw [hst]; exact held.2.2.1)
    have I5 : Inv X pins σ H2 { s2 with heap := h5 } := I1.call' (ch := []) ho2 fl5.un fl5.hok hb2 (fun b hb => by cases hb)
    obtain ⟨ob, hob, hcl⟩ := fw5.there
    refine wpAny_handleBy_cons (codeAny_handlers_test (ld_glob (inv_marked (ea := ea) I5) hgc hmc ?_ hdc)) (by intro q; cases q)
    have LT : PySem.W.Looks (model X.prog X.w) h5 (typeOf (.ref ea)) (.ref C) := hcl ▸ (PySem.W.Looks.ld hob).andThen .now
    refine (PySem.W.exm_one I5.kIn LT hex).here ?_
    refine codeAny_handlers_suite_as ?_
    refine lands_againW fw5 fun h6 fw6 up6 => ?_
    have fl6 := fl5.next (base := B) fw6.1 up6 (by rw [hst]; exact fw5.2.2.1)
    obtain ⟨ob6, hob6, hcl6⟩ := fw6.there
    have nea : ∀ b u, H2 b = some u → b ≠ ea := fun b u q1 z => by rw [z, hea] at q1; cases q1
    have un6 : Un (frs X.stack) [] H1 (upd H2 ea (excO C ea)) s1.heap h6 := by
      refine ⟨fl6.un.keep, fl6.un.slot, fun b o q1 q2 q3 => ?_, fl6.un.there, fun b xs q1 => ?_, fun b o u q1 => ?_, fun b p q1 => ?_⟩
      · have hbe : b ≠ ea := fun z => by rw [z, fl.new] at q1; cases q1
        rw [upd_ne hbe]
        exact fl6.un.free b o q1 q2 q3
      · have q2 := fl6.un.tups b xs q1
        rw [upd_ne (nea b _ q2)]
        exact q2
      · have q2 := fl6.un.frzs b o u q1
        rw [upd_ne (nea b _ q2)]
        exact q2
      · obtain ⟨more, q2⟩ := fl6.un.tbls b p q1
        exact ⟨more, by rw [upd_ne (nea b _ q2)]; exact q2⟩
    have hok6 : HOk X.prog X.w (upd H2 ea (excO C ea)) h6 := fun b u q1 => by
      by_cases hbe : b = ea
      · subst hbe
        rw [upd_same] at q1
        cases q1
        exact ⟨⟨ob6, hob6, hcl6⟩, ⟨ob6, hob6⟩, fun g1 g2 ⟨o, z1, z2⟩ z3 => ⟨o, z3 o z1, z2⟩⟩
      · rw [upd_ne hbe] at q1
        refine (fl6.hok b u q1).stay (fun _ _ _ z => z) (fun c z => ?_) fun c xs z => ?_
        · rw [upd_ne (nea c _ z)]; exact z
        · rw [upd_ne (nea c _ z)]; exact z
    have I6 : Inv X pins σ (upd H2 ea (excO C ea)) { s2 with heap := h6 } := I1.call' (ch := []) ho2 un6 hok6 hb2 (fun b hb => by cases hb)
    refine store_ok (v := .ref ea) I6 hN hi (Or.inl hx) rfl (fun s7 I7 => ?_) (.inr hx)
    refine wpAny_mono (hs ea pins s7 _ _ _ (inv_marked I7) (suit ea hea)) (fun f8 s8 q8 => ?_) (fun _ _ z => z.elim)
    cases f8 with
    | next =>
      obtain ⟨σ8, H8, I8, q8⟩ := q8
      exact name_off (inv_unmarked I8 I.ok.hd) hN hi hx fun s9 I9 => ⟨_, H8, I9, q8⟩
    | ret v =>
      obtain ⟨_, _, _, _, _, q8⟩ := q8
      exact q8.elim
    | brk =>
      obtain ⟨_, _, _, q8⟩ := q8
      exact q8.elim
    | cont =>
      obtain ⟨_, _, _, q8⟩ := q8
      exact q8.elim
end
end LX
namespace LX
open PySem PySem.Spec PyProof.Rows L2
/-- what an own class of exceptions has, so that isinstance answers -/
structure ExcCls (K : PySem.W.Frag) (C : Addr) : Prop where
  ga : PySem.W.findIn K (.ref C) "__getattribute__" = some (some (.builtin "BaseException.__getattribute__"))
  gh : PySem.W.findIn K (.ref C) "__getattr__" = some none
  cl : PySem.W.isClsIn K C = true
  ha : PySem.W.findIn K (.ref C) "__class__" = some (some (.builtin "object.__class__"))
  hn : PySem.W.specialIn K (.builtin "object.__class__") "__get__" = some (some (.builtin "getset_descriptor.__get__"))
  htk : PySem.W.takesIn K (.builtin "object.__class__") = some true
  hm : PySem.W.mroIn K C (.type "object") = some true
  hb : PySem.W.mroIn K C (.type "BaseException") = some true
def ExcAt (C ea : Addr) (h : Heap) : Prop := ∃ o, h.get? ea = some o ∧ o.cls = .ref C
theorem ExcAt.type {M : Model} {h : Heap} {C ea : Addr} (x : ExcAt C ea h) : PySem.W.Looks M h (typeOf (.ref ea)) (.ref C) := by
  obtain ⟨o, h1, h2⟩ := x
  exact h2 ▸ (PySem.W.Looks.ld h1).andThen .now
theorem exc_find {K : PySem.W.Frag} {M : Model} {h : Heap} {C ea : Addr} (Y : K.In h) (c : ExcCls K C) : PySem.W.Looks M h (Builtin.ObjectAttr.find (.ref ea) (.ref C) "__class__") (Builtin.ObjectAttr.Found.bind (.builtin "getset_descriptor.__get__") (.builtin "object.__class__")) := by
  have G1 := PySem.W.looks_findIn (M := M) Y c.ha
  have G2 : PySem.W.Looks M h (Builtin.ObjectAttr.getOf (some (.builtin "object.__class__"))) (some (.builtin "getset_descriptor.__get__")) := PySem.W.looks_specialIn Y c.hn
  have G3 := PySem.W.looks_takesIn (M := M) Y c.htk
  refine G1.andThen (G2.andThen ?_)
  exact (show PySem.W.Looks M h (Builtin.ObjectAttr.dataDescriptor? (some (.builtin "object.__class__")) (some (.builtin "getset_descriptor.__get__"))) (some ((.builtin "getset_descriptor.__get__"), (.builtin "object.__class__"))) from G3.andThen .now).andThen (PySem.W.Looks.tag .now)
section
variable {prog : Program} {w : World} {A : Around} {E : Value → Shared → Prop} {s : Shared} {K : PySem.W.Frag} {x D : Addr}
theorem exc_get {R : Result → Shared → Prop} {tp : Value} (Y : K.In s.heap) (c : ExcCls K D) (I : ExcAt D x s.heap) (h : R (.ok (.ret (.ref D))) s) :
    codeAny (model prog w) A (.call (.builtin "getset_descriptor.__get__") ⟨[.builtin "object.__class__", .ref x, tp], []⟩) R s := by
  obtain ⟨hh, g, dr, t, os⟩ := s
  have L0 := I.type (M := model prog w)
  have L1 := PySem.W.looks_mroIn (M := model prog w) Y c.hm
  refine codeAny_call_builtin PySem.W.KF.slot_gs.plain PySem.W.KF.entry_gs (PySem.W.KF.slot_gs.check _ _ _ _ _ _ _ _ PySem.W.KF.type_class (PySem.W.KF.args_gs _ _ _) ?_)
  unfold Builtin.«getset_descriptor.__get__» Builtin.Getset_descriptor.descrGet
  rw [PySem.W.dga_obj]
  refine wpAny_bind (wpAny_pure ?_)
  unfold Builtin.Getset_descriptor.descrGetter Builtin.Getset_descriptor.descrCheckInstance Builtin.Getset_descriptor.descrNameAndClass isInstance
  simp only [PySem.W.KF.owner_class]
  (repeat lk)
  refine ⟨Code.quiet_builtin _ (by decide +kernel), codeAny_builtin PySem.W.KF.entry_class ?_⟩
  unfold Builtin.«object.__class__» shownTypeOf
  (repeat lk); exact h
theorem exc_check {M : Model} {v : Value} {Q : Unit → Shared → Prop} (Y : K.In s.heap) (c : ExcCls K D) (I : ExcAt D x s.heap) (h : Q () s) : wpAny M A (checkBuiltinCall "BaseException.__getattribute__" ⟨[.ref x, v], []⟩) Q E s := by
  obtain ⟨hh, g, d, t, os⟩ := s
  have kd : builtinKind "BaseException.__getattribute__" = some .slot := by decide +kernel
  have sp : splitId "BaseException.__getattribute__" = some ("BaseException", "__getattribute__") := by decide +kernel
  have T0 := I.type (M := M)
  have G1 := PySem.W.looks_mroIn (M := M) Y c.hb
  have ag := PySem.F.args_bexc_ga (.ref x) v
  simp only [checkBuiltinCall, kd, sp]
  refine wpAny_bind ?_
  unfold isInstance
  refine wpAny_bind (T0.at (G1.at ?_))
  repeat (any_goals (first | assumption | wp_step))
theorem exc_class {Q : Option Value → Shared → Prop} (Y : K.In s.heap) (c : ExcCls K D) (I : ExcAt D x s.heap) (h : Q (some (.ref D)) { s with toks := s.toks + 1 }) : wpAny (model prog w) A (getAttr? (.ref x) "__class__") Q E s := by
  obtain ⟨hh, g, d, t, os⟩ := s
  have T0 := I.type (M := model prog w)
  have G1 := PySem.W.looks_findIn (M := model prog w) Y c.ga
  have G2 := PySem.W.looks_findIn (M := model prog w) Y c.gh
  have G3 := exc_find (M := model prog w) (ea := x) Y c
  have n1 : (onTheHeap (Value.ref D) && Value.builtin "BaseException.__getattribute__" == Value.builtin "object.__getattribute__") = false := by
    rw [show (Value.builtin "BaseException.__getattribute__" == Value.builtin "object.__getattribute__") = false by decide +kernel, Bool.and_false]
  unfold getAttr? getAttrBy? getAttrBy
  refine wpAny_bind (wpAny_mkText (wpAny_bind (wpAny_attempt (wpAny_holding (wpAny_bind (T0.at (wpAny_bind (G1.at ?_))))))))
  dsimp only
  rw [if_neg (by rw [n1]; exact Bool.false_ne_true)]
  unfold getAttrByItsOwn hookBefore
  rw [if_pos (show onTheHeap (Value.ref D) = true from rfl)]
  refine wpAny_bind (G2.at ?_)
  refine wpAny_bind (wpAny_attempt (wpAny_holding ?_))
  show wpAny _ _ (boundAndCalled (.builtin "BaseException.__getattribute__") (.ref x) _) _ _ _
  unfold boundAndCalled
  rw [PySem.F.excAttr_ValueError.ga.bind (.ref x)]
  refine wpAny_bind (wpAny_pure ?_)
  refine wpAny_call (codeAny_call_builtin PySem.F.excAttr_ValueError.ga.plain PySem.F.entry_bexc_ga (exc_check Y c I ?_))
  unfold Builtin.«object.__getattribute__»
  refine wpAny_bind (wpAny_pure (wpAny_bind (wpAny_pure (wpAny_bind (T0.at (wpAny_bind (G3.at ?_)))))))
  show wpAny _ _ (holding [.builtin "object.__class__"] (call (.builtin "getset_descriptor.__get__") [.builtin "object.__class__", .ref x, .ref D]) >>= ret) _ _ _
  refine wpAny_bind (wpAny_holding (wpAny_call (exc_get (s := ⟨hh, g, d, t + 1, os⟩) Y c I ?_)))
  refine wpAny_pure ?_
  exact PySem.W.handed_on rfl (wpAny_pure h)
theorem kitx_exc (c : ExcCls K D) : PySem.W.KitX K (.ref x) (.ref D) (ExcAt D x) where
  ty := fun _ _ _ I => I.type
  it := fun _ _ Y _ => by
    obtain ⟨cd, hcD⟩ := Option.isSome_iff_exists.mp c.cl
    unfold PySem.W.clsIn at hcD
    split at hcD
    case h_2 => cases hcD
    rename_i c' d' cd' sl' ho
    intro A' Q' E' s' k q
    unfold isType loadHead
    exact wpAny_bind (wpAny_loadPart (k _ _ (Y _ _ ho)) (wpAny_pure q))
  ne := fun h tp dd its n sl Y htp => by
    obtain ⟨cd, hcD⟩ := Option.isSome_iff_exists.mp c.cl
    refine Bool.eq_false_iff.mpr fun q => ?_
    have e : D = tp := Value.ref.inj (beq_iff_eq.mp q)
    subst e
    unfold PySem.W.clsIn at hcD
    split at hcD
    case h_2 => cases hcD
    rename_i c' d' cd' sl' ho
    have z := (Y _ _ ho).symm.trans htp
    cases z
  ca := fun Y I k => exc_class Y c I k
end
section
variable {X : Cx}
theorem call_isexc : CallR X (.builtin "isinstance") (fun xs H Q => ∃ (ea C : Addr) (c : V) (b : Bool), xs = [.ref ea, c] ∧ H ea = some (excO C ea) ∧ ExcCls X.K C ∧ ((∃ D, c = .ref D ∧ PySem.W.kitOne X.K (.ref C) (.ref D) = some b) ∨ ∃ T, c = .ty T ∧ PySem.W.kitOne X.K (.ref C) (.type T) = some b) ∧ Q (.bl b) H) := by
  intro pins s σ H xs us Q I r h
  obtain ⟨ea, C, c, b, rfl, he, hc, hk, q⟩ := h
  obtain ⟨u, u', rfl, rx, ry⟩ := vals2 r
  cases rx
  have at_ : ExcAt C ea s.heap := (I.hok ea _ he).1
  rcases hk with ⟨D, rfl, hk⟩ | ⟨T, rfl, hk⟩
  · cases ry
    exact PySem.W.kia_one (kitx_exc hc) I.kIn at_ hk (fun z => nomatch z) fun tk => ⟨.bl b, H, I.tok tk, rfl, q⟩
  · cases ry
    exact PySem.W.kia_one (kitx_exc hc) I.kIn at_ hk (fun z => nomatch z) fun tk => ⟨.bl b, H, I.tok tk, rfl, q⟩
end
end LX
namespace LX
open PySem PySem.Spec PyProof.Rows L2
open SeqAt
section
variable {X : Cx}
/-- all(bs), a list of truths -/
theorem call_all (hc : X.calm = true) : CallR X (.builtin "all") (fun xs H Q => ∃ (p : Addr) (bs : List Bool), xs = [.ref p] ∧ SqL X.K H p (bs.map V.bl) ∧ Q (.bl (bs.all id)) H) := by
  intro pins s σ H xs us Q I r h
  obtain ⟨p, bs, rfl, hp, q⟩ := h
  obtain ⟨u, rfl, rx⟩ := vals1 r
  cases rx
  obtain ⟨its, rv, pl, _⟩ := I.list hp
  have hl : s.heap.IsList p its.toArray := pl.isList
  have hlt : p < s.heap.objs.size := by obtain ⟨_, e, _⟩ := hl; exact Heap.lt_size e
  have len : its.length = bs.length := by rw [← rv.length, List.length_map]
  have at_ : ∀ i v, its.toArray[i]? = some v → v = Value.bool (bs.getD i false) := fun i v e => by
    rw [List.getElem?_toArray] at e
    have hi : i < bs.length := by
      have := (List.getElem?_eq_some_iff.mp e).1
      omega
    have e2 : (bs.map V.bl)[i]? = some (V.bl bs[i]) := by rw [List.getElem?_map, List.getElem?_eq_getElem hi]; rfl
    obtain ⟨w, e3, rw'⟩ := rv.get e2
    rw [e] at e3
    cases e3
    have : v = Value.bool bs[i] := rw'
    rw [this, List.getD_eq_getElem?_getD, List.getElem?_eq_getElem hi]
    rfl
  refine call_all_walk (wpAny_pyIter_list hl ?_)
  refine ⟨s.heap.objs.size, _, _, _, _, _, fun i => bs.getD i false, rfl, Walks.list (prog := X.prog) (w := X.w) (A := X.A.in1) (I.ok.hd hc) s.heap.objs.size p (Nat.ne_of_lt hlt) its.toArray, ⟨⟨_, Heap.get?_push_size _ rfl, rfl, rfl⟩, hl.push _⟩, ?_, fun h' tk kp => ?_⟩
  · intro i v s Q E hv hq
    rw [at_ i v hv]
    exact wpAny_truthy_bool hq
  · have e : (List.range its.toArray.size).all (fun i => bs.getD i false) = bs.all id := by
      rw [List.size_toArray, len, Bool.eq_iff_iff, List.all_eq_true, List.all_eq_true]
      constructor
      · intro hh b hb
        obtain ⟨i, hi, rfl⟩ := List.mem_iff_getElem.mp hb
        have := hh i (List.mem_range.mpr hi)
        rw [List.getD_eq_getElem?_getD, List.getElem?_eq_getElem hi] at this
        exact this
      · intro hh i hi
        have hi := List.mem_range.mp hi
        rw [List.getD_eq_getElem?_getD, List.getElem?_eq_getElem hi]
        exact hh _ (List.getElem_mem hi)
    rw [e]
    refine ⟨.bl (bs.all id), H, I.kept fun b o e => kp b o ?_ (Heap.get?_push_of_some _ e), rfl, q⟩
    intro hm
    rw [List.mem_singleton.mp hm] at e
    exact absurd (Heap.lt_size e) (Nat.lt_irrefl _)
end
end LX
namespace LX
open PySem PySem.Spec PyProof.Rows L2 TM
theorem kit_self (K : PySem.W.Frag) (t : Value) : PySem.W.kitOne K t t = some true := by
  unfold PySem.W.kitOne
  rw [if_pos (beq_self_eq_true t)]
end LX
namespace LX
open PySem PySem.Spec PyProof.Rows L2
theorem below_go (xs : Array Nat) (j : Nat) (up : xs.toList.Pairwise (· < ·)) : ∀ (fuel lo hi : Nat), hi - lo ≤ fuel → lo ≤ hi → hi ≤ xs.size → (∀ (i : Nat) x, xs[i]? = some x → i < lo → x < j) → (∀ (i : Nat) x, xs[i]? = some x → hi ≤ i → j ≤ x) →
    SetTable.below.go xs j fuel lo hi ≤ xs.size ∧ (∀ (i : Nat) x, xs[i]? = some x → i < SetTable.below.go xs j fuel lo hi → x < j) ∧ ∀ (i : Nat) x, xs[i]? = some x → SetTable.below.go xs j fuel lo hi ≤ i → j ≤ x
  | 0, lo, hi, hf, hl, hs, h1, h2 => by
    have : lo = hi := by omega
    subst this
    unfold SetTable.below.go
    exact ⟨hs, h1, h2⟩
  | fuel + 1, lo, hi, hf, hl, hs, h1, h2 => by
    unfold SetTable.below.go
    by_cases c : lo < hi
    · rw [if_pos c]
      dsimp only
      have hm : (lo + hi) / 2 < xs.size := by omega
      have em : xs[(lo + hi) / 2]? = some xs[(lo + hi) / 2] := Array.getElem?_eq_getElem hm
      have ed : xs.getD ((lo + hi) / 2) j = xs[(lo + hi) / 2] := by rw [Array.getD_eq_getD_getElem?, em]; rfl
      have mono : ∀ (i k : Nat) x y, xs[i]? = some x → xs[k]? = some y → i < k → x < y := fun i k x y hx hy hik => by
        rw [← Array.getElem?_toList] at hx hy
        obtain ⟨hi1, rfl⟩ := List.getElem?_eq_some_iff.mp hx
        obtain ⟨hk1, rfl⟩ := List.getElem?_eq_some_iff.mp hy
        exact List.pairwise_iff_getElem.mp up i k hi1 hk1 hik
      rw [ed]
      by_cases d : xs[(lo + hi) / 2] < j
      · rw [if_pos d]
        refine below_go xs j up fuel _ hi (by omega) (by omega) hs (fun i x hx hi' => ?_) h2
        rcases Nat.lt_or_ge i ((lo + hi) / 2) with q | q
        · have := mono i _ x _ hx em q
          omega
        · have e : i = (lo + hi) / 2 := by omega
          rw [e, em] at hx
          cases hx
          exact d
      · rw [if_neg d]
        refine below_go xs j up fuel lo _ (by omega) (by omega) (by omega) h1 (fun i x hx hi' => ?_)
        rcases Nat.lt_or_ge ((lo + hi) / 2) i with q | q
        · have := mono _ i _ x em hx q
          omega
        · have e : i = (lo + hi) / 2 := by omega
          rw [e, em] at hx
          cases hx
          omega
    · rw [if_neg c]
      have : lo = hi := by omega
      subst this
      exact ⟨hs, h1, h2⟩
theorem below_ok {xs : Array Nat} (up : xs.toList.Pairwise (· < ·)) (j : Nat) : SetTable.below xs j ≤ xs.size ∧ (∀ (i : Nat) x, xs[i]? = some x → i < SetTable.below xs j → x < j) ∧ ∀ (i : Nat) x, xs[i]? = some x → SetTable.below xs j ≤ i → j ≤ x :=
  below_go xs j up xs.size 0 xs.size (by omega) (Nat.zero_le _) (Nat.le_refl _) (fun i x _ h => by omega) (fun i x hx h => by
    have := (Array.getElem?_eq_some_iff.mp hx).1
    omega)
structure TOk (L : Bool) (t : SetTable) : Prop where
  led : t.led = L
  dm : t.dummies = #[]
  up : t.place.toList.Pairwise (· < ·)
theorem TOk.plain {L : Bool} {t : SetTable} (h : TOk L t) : TOk L { t with plain := false } := ⟨h.led, h.dm, h.up⟩
theorem TOk.standIn {L : Bool} {t : SetTable} (h : TOk L t) (n : Nat) : TOk L (t.standIn n) := by
  refine ⟨h.led, rfl, ?_⟩
  show (Array.range n).toList.Pairwise (· < ·)
  rw [Array.toList_range]
  exact List.pairwise_lt_range
theorem TOk.put {L : Bool} {t : SetTable} (h : TOk L t) {j : Nat} (hj : j ∉ t.place.toList) : TOk L (t.put j).1 := by
  obtain ⟨b1, b2, b3⟩ := below_ok h.up j
  have hd : SetTable.has t.dummies j = false := by rw [h.dm]; rfl
  refine ⟨h.led, ?_, ?_⟩
  · show (if SetTable.has t.dummies j then _ else t.dummies) = #[]
    rw [hd]
    exact h.dm
  · show (SetTable.insertAt t.place (SetTable.below t.place j) j).toList.Pairwise (· < ·)
    rw [SetTable.toList_insertAt]
    have e := List.take_append_drop (SetTable.below t.place j) t.place.toList
    have up := h.up
    rw [← e, List.pairwise_append] at up
    rw [List.pairwise_append, List.pairwise_cons]
    have tk : ∀ a, a ∈ t.place.toList.take (SetTable.below t.place j) → a < j := fun a ha => by
      obtain ⟨i, hi, rfl⟩ := List.mem_iff_getElem.mp ha
      rw [List.length_take] at hi
      rw [List.getElem_take]
      exact b2 i _ (by rw [← Array.getElem?_toList]; exact List.getElem?_eq_getElem (by omega)) (by omega)
    have dr : ∀ a, a ∈ t.place.toList.drop (SetTable.below t.place j) → j < a := fun a ha => by
      have hm := List.mem_of_mem_drop ha
      obtain ⟨i, hi, rfl⟩ := List.mem_iff_getElem.mp ha
      rw [List.length_drop] at hi
      rw [List.getElem_drop] at hm ⊢
      have := b3 (SetTable.below t.place j + i) _ (by rw [← Array.getElem?_toList]; exact List.getElem?_eq_getElem (by omega)) (by omega)
      rcases Nat.lt_or_ge j (t.place.toList[SetTable.below t.place j + i]'(by omega)) with q | q
      · exact q
      · have : j = t.place.toList[SetTable.below t.place j + i]'(by omega) := by omega
        exact absurd (by rw [this]; exact hm) hj
    exact ⟨up.1, ⟨dr, up.2.1⟩, fun a ha b hb => by
      rcases List.mem_cons.mp hb with rfl | hb
      · exact tk a ha
      · have := tk a ha; have := dr b hb; omega⟩
theorem probe_empty {t : SetTable} {f : Nat → Int} {h : Int} (hd : t.dummies = #[]) : ∀ (fuel : Nat) (p : SetTable.Probe) (j : Nat) (d : Option Nat), p.dummy = none → SetTable.probe.go t f h fuel p = some (.empty j d) → d = none ∧ t.slot j = .empty
  | 0, p, j, d, _, e => by
    unfold SetTable.probe.go at e
    cases e
  | fuel + 1, p, j, d, hp, e => by
    unfold SetTable.probe.go at e
    have adv : (t.advance p).dummy = none := by
      unfold SetTable.advance
      split
      · exact hp
      · exact hp
    cases q : t.slot p.j with
    | empty =>
      rw [q] at e
      dsimp only at e
      cases e
      exact ⟨hp, q⟩
    | dummy =>
      exfalso
      unfold SetTable.slot at q
      dsimp only at q
      split at q
      · cases q
      · split at q
        · rename_i z
          rw [hd] at z
          exact absurd (show (false : Bool) = true from z) Bool.false_ne_true
        · cases q
    | live i =>
      rw [q] at e
      dsimp only at e
      split at e
      · cases e
      · exact probe_empty hd fuel _ j d adv e
theorem free_out {L : Bool} {t : SetTable} {h : Int} {j : Nat} {b : Bool} (ok : TOk L t) (e : t.freeSlot h = some (j, b)) : j ∉ t.place.toList := by
  unfold SetTable.freeSlot at e
  split at e
  · rename_i j' d q
    unfold SetTable.probe at q
    obtain ⟨rfl, hs⟩ := probe_empty ok.dm _ _ _ _ rfl q
    have ej : j' = j := by
      have := Option.some.inj e
      exact congrArg Prod.fst this
    rw [← ej]
    clear e
    intro hm
    unfold SetTable.slot at hs
    dsimp only at hs
    split at hs
    · cases hs
    · rename_i z
      obtain ⟨b1, b2, b3⟩ := below_ok ok.up j'
      obtain ⟨i, hi, e2⟩ := List.mem_iff_getElem.mp hm
      have ei : t.place[i]? = some j' := by rw [← Array.getElem?_toList, List.getElem?_eq_getElem hi, e2]
      have hi2 : SetTable.below t.place j' = i := by
        rcases Nat.lt_trichotomy i (SetTable.below t.place j') with c | c | c
        · have := b2 i j' ei c; omega
        · exact c.symm
        · have hb : SetTable.below t.place j' < t.place.toList.length := by omega
          have e3 : t.place[SetTable.below t.place j']? = some t.place.toList[SetTable.below t.place j'] := by rw [← Array.getElem?_toList]; exact List.getElem?_eq_getElem hb
          have h4 := b3 _ _ e3 (Nat.le_refl _)
          have h5 := List.pairwise_iff_getElem.mp ok.up _ i hb hi c
          omega
      rw [hi2, ei] at z
      simp at z
  · cases e
theorem lay_ok {L : Bool} {t : SetTable} (ok : TOk L t) (es : Array (Int × Value)) (h : Int) (x : Value) : TOk L (layNew t es h x).2.1 := by
  unfold layNew
  cases e : t.freeSlot h with
  | none => exact ok.standIn _
  | some r =>
    obtain ⟨j, b⟩ := r
    dsimp only
    have p := ok.put (free_out ok e)
    show TOk L ((t.put j).1.orStandIn _)
    unfold SetTable.orStandIn
    split
    · exact p
    · exact p.standIn _
theorem relay_ok {L : Bool} {t : SetTable} (ok : TOk L t) (es : Array (Int × Value)) (n : Nat) : TOk L (relayAll t es n).2.1 := by
  unfold relayAll
  cases e : t.relaid (es.map (·.1)) n with
  | none => exact ok.standIn _
  | some r =>
    obtain ⟨t', ord⟩ := r
    dsimp only
    split
    · unfold SetTable.relaid SetTable.laid at e
      obtain ⟨ow, _, e⟩ := Option.bind_eq_some_iff.mp e
      cases e
      refine ⟨ok.led, rfl, ?_⟩
      dsimp only
      rw [List.pairwise_map, List.pairwise_filterMap]
      refine List.pairwise_lt_range.imp fun {a b} hab x hx y hy => ?_
      cases qa : ow.getD a none with
      | none => rw [qa] at hx; cases hx
      | some u =>
        cases qb : ow.getD b none with
        | none => rw [qb] at hy; cases hy
        | some v =>
          rw [qa] at hx
          rw [qb] at hy
          cases hx
          cases hy
          exact hab
    · exact ok.standIn _
end LX
namespace LX
open PySem PySem.Spec PyProof.Rows L2
def ivl : Value → Int
  | .int i _ => i
  | _ => 0
section
variable {prog : Program} {w : World} {A : Around} {E : Value → Shared → Prop} {s : Shared}
structure SetT (prog : Program) (w : World) (L : Bool) (ks : List Int) (es : Array (Int × Value)) (t : SetTable) : Prop where
  el : ElemsOf (intKind prog w) es.toList
  ks : es.toList.map (fun e => ivl e.2) = ks
  sz : es.size < scanBound
  ft : t.fits es.size = true
  ok : TOk L t
def SetI (prog : Program) (w : World) (h : Heap) (a : Addr) (L : Bool) (ks : List Int) : Prop := ∃ es ep t, h.get? a = some { cls := .type "set", dict := none, data := .set es ep t, slots := #[] } ∧ SetT prog w L ks es t
theorem int_of_is {k : Int} {v : Value} (h : (intKind prog w).is k v = true) : ∃ t, v = .int k t := by
  cases v with
  | int i t =>
    have : (i == k) = true := h
    rw [eq_of_beq this]
    exact ⟨t, rfl⟩
  | _ => exact absurd (show false = true from h) Bool.false_ne_true
theorem SetT.len {L : Bool} {ks : List Int} {es : Array (Int × Value)} {t : SetTable} (h : SetT prog w L ks es t) : ks.length = es.size := by rw [← h.ks, List.length_map, Array.length_toList]
theorem SetT.mem {L : Bool} {ks : List Int} {es : Array (Int × Value)} {t : SetTable} (h : SetT prog w L ks es t) (k : Int) : k ∈ ks ↔ ∃ e ∈ es.toList, (intKind prog w).is k e.2 = true := by
  rw [← h.ks, List.mem_map]
  constructor
  · rintro ⟨e, he, rfl⟩
    obtain ⟨⟨k', hk, _⟩, _⟩ := h.el e he
    obtain ⟨tk, e2⟩ := int_of_is hk
    refine ⟨e, he, ?_⟩
    rw [e2] at hk ⊢
    exact hk
  · rintro ⟨e, he, hk⟩
    obtain ⟨tk, e2⟩ := int_of_is hk
    exact ⟨e, he, by rw [e2]; rfl⟩
theorem SetI.put {h : Heap} {a : Addr} {L : Bool} {ks' : List Int} {es es' : Array (Int × Value)} {ep : Nat} {t t' : SetTable} (ho : h.get? a = some { cls := .type "set", dict := none, data := .set es ep t, slots := #[] }) (h' : SetT prog w L ks' es' t') :
    (h.update a (Obj.putSet es' t')).get? a = some { cls := .type "set", dict := none, data := .set es' (ep + 1) t', slots := #[] } := by
  have := Heap.get?_update_self (Obj.putSet es' t') ho (by rw [putSet_of es' t' rfl]; rfl)
  rw [putSet_of es' t' rfl] at this
  exact this
theorem add_int {a : Addr} {L : Bool} {ks : List Int} {k : Int} {tk : Tok} {Q : Bool → Shared → Prop} (hS : SetI prog w s.heap a L ks) (room : ks.length + 1 < scanBound)
    (h : ∀ h' ks' b, Heap.SameBut a s.heap h' → SetI prog w h' a L ks' → ((k ∈ ks ∧ ks' = ks) ∨ (k ∉ ks ∧ ks'.Perm (k :: ks))) → Q b { s with heap := h' }) :
    wpAny (model prog w) A (setAddHashed a (.int k tk) ((intKind prog w).hash k)) Q E s := by
  obtain ⟨es, ep, t, ho, T⟩ := hS
  have key : (intKind prog w).is k (.int k tk) = true := intKind_is _ _ _ _
  unfold setAddHashed setAddHashedIn
  refine wpAny_holding (wpAny_bind (wpAny_setState_of ho rfl T.ft ?_))
  dsimp only
  rw [byScan_of rfl T.sz T.el]
  simp only [↓reduceIte]
  unfold setAddByScan
  refine wpAny_bind (wpAny_bind (wpAny_rule ?_))
  refine wpAny_bind (wpAny_setScan_of key ho rfl T.ft T.el ?_)
  cases hr : List.findIdx? (fun e => (intKind prog w).is k e.2) es.toList with
  | some j =>
    dsimp only
    obtain ⟨hj, hpj, _⟩ := List.findIdx?_eq_some_iff_getElem.mp hr
    refine wpAny_pure (wpAny_pure ?_)
    exact h s.heap ks _ (Heap.SameBut.refl a s.heap) ⟨es, ep, t, ho, T⟩ (.inl ⟨(T.mem k).mpr ⟨_, List.getElem_mem hj, hpj⟩, rfl⟩)
  | none =>
    dsimp only
    have out : k ∉ ks := fun hm => by
      obtain ⟨e, he, hp⟩ := (T.mem k).mp hm
      have := List.findIdx?_eq_none_iff.mp hr e he
      rw [hp] at this
      exact Bool.noConfusion this
    have gw : ∀ (b : Bool) {s₁ : Shared} {Q' : Unit → Shared → Prop}, Q' () s₁ → wpAny (model prog w) A (match b with | true => rule "set.scan.the-table-gave-way" | false => pure ()) Q' E s₁ :=
      fun b s₁ Q' hq => by cases b <;> first | exact wpAny_pure hq | exact wpAny_rule hq
    have pm := layNew_perm t es ((intKind prog w).hash k) (.int k tk)
    have ft := layNew_fits t es ((intKind prog w).hash k) (.int k tk)
    have ok := lay_ok T.ok es ((intKind prog w).hash k) (.int k tk)
    generalize layNew t es ((intKind prog w).hash k) (.int k tk) = N at pm ft ok ⊢
    obtain ⟨es1, t1, wasD, gave⟩ := N
    dsimp only at pm ft ok ⊢
    rw [Array.toList_push] at pm
    have kp : (es1.toList.map fun e => ivl e.2).Perm (k :: ks) := by
      have := pm.map (fun e => ivl e.2)
      rw [List.map_append, T.ks] at this
      exact this.trans (List.perm_append_comm (l₁ := ks) (l₂ := [k]))
    have sz1 : es1.size < scanBound := by
      have := kp.length_eq
      rw [List.length_map, Array.length_toList, List.length_cons] at this
      omega
    have T1 : SetT prog w L (es1.toList.map fun e => ivl e.2) es1 t1 := ⟨(T.el.push key rfl).perm pm, rfl, sz1, ft, ok⟩
    refine wpAny_bind (gw _ ?_)
    split
    all_goals
      refine wpAny_bind (wpAny_of_eq (a := true) rfl ?_)
      simp only [↓reduceIte]
      refine wpAny_bind (wpAny_storeSet_of ho rfl ?_ (fits_of_scanBound sz1))
      have ho1 := SetI.put ho T1
      have sb1 := Heap.SameBut.update s.heap a (Obj.putSet es1 t1)
      split
      · have pm2 := relayAll_perm t1 es1 (SetTable.grown es1.size)
        have ft2 := relayAll_fits t1 es1 (SetTable.grown es1.size)
        have ok2 := relay_ok ok es1 (SetTable.grown es1.size)
        generalize relayAll t1 es1 (SetTable.grown es1.size) = N2 at pm2 ft2 ok2 ⊢
        obtain ⟨es2, t3, gave2⟩ := N2
        dsimp only at pm2 ft2 ok2 ⊢
        have kp2 : (es2.toList.map fun e => ivl e.2).Perm (k :: ks) := (pm2.map _).trans kp
        have sz2 : es2.size < scanBound := by
          have := pm2.length_eq
          rw [Array.length_toList, Array.length_toList] at this
          omega
        have T2 : SetT prog w L (es2.toList.map fun e => ivl e.2) es2 t3 := ⟨T1.el.perm pm2, rfl, sz2, ft2, ok2⟩
        refine wpAny_bind (gw _ ?_)
        refine wpAny_bind (wpAny_storeSet_of ho1 rfl ?_ (fits_of_scanBound sz2))
        refine wpAny_pure (wpAny_pure ?_)
        exact h _ _ _ (sb1.trans (Heap.SameBut.update _ a _)) ⟨es2, _, t3, SetI.put ho1 T2, T2⟩ (.inr ⟨out, kp2⟩)
      · refine wpAny_pure (wpAny_pure ?_)
        exact h _ _ _ sb1 ⟨es1, _, t1, ho1, T1⟩ (.inr ⟨out, kp⟩)
end
end LX
namespace LX
open PySem PySem.Spec PyProof.Rows L2
section
variable {prog : Program} {w : World} {A : Around} {E : Value → Shared → Prop} {s : Shared} {R : Result → Shared → Prop} {J : Addr} {fq wq : List Addr} {n : Nat} {G : Nat → Value → Prop} {Z : Nat → Heap → Prop}
theorem set_loop (W : Walks prog w A.in1 J fq wq n G Z) (B : Addr) (hB : B ∉ fq) (ns : List Int) (hn : ns.length = n) (hv : ∀ i v, G i v → ∃ t, v = .int (ns.getD i 0) t) (room : n + 1 < scanBound) (L : Bool) :
    ∀ (k i : Nat) (s : Shared) (ks : List Int), n - i = k → i ≤ n → Z i s.heap → SetI prog w s.heap B L ks → ks.Nodup → (∀ x, x ∈ ks ↔ x ∈ ns.take i) → ks.length ≤ i →
    (∀ h' tk ks', (∀ b o, b ∉ wq → b ≠ B → s.heap.get? b = some o → h'.get? b = some o) → SetI prog w h' B L ks' → ks'.Nodup → (∀ x, x ∈ ks' ↔ x ∈ ns) → R (.ok (.ret .none)) { s with heap := h', toks := tk }) →
    codeAny (model prog w) A (.builtin "set.update.loop" ⟨[.ref B, .ref J], []⟩) R s := by
  have hBw : B ∉ wq := fun z => hB (W.sub _ z)
  intro k
  induction k with
  | zero =>
    intro i s ks hk hi st hS nd mm hl hR
    have ei : i = n := by omega
    subst ei
    refine codeAny_builtin PyProof.Rows.F.entry_set_update_loop ?_
    rw [Around.under_plainId PyProof.Rows.F.plain_set_update_loop _]
    show wpAny _ A.in1 (pyNext (.ref J) >>= _) _ _ s
    refine wpAny_bind (W.done s _ _ st fun h' tk kp => ?_)
    obtain ⟨es, ep, t, ho, T⟩ := hS
    refine wpAny_pure (hR h' tk ks (fun b o hb _ e => kp b o hb e) ⟨es, ep, t, kp B _ hBw ho, T⟩ nd fun x => ?_)
    rw [mm x, ← hn, List.take_length]
  | succ k ih =>
    intro i s ks hk hi st hS nd mm hl hR
    have lt : i < n := by omega
    refine codeAny_builtin PyProof.Rows.F.entry_set_update_loop ?_
    rw [Around.under_plainId PyProof.Rows.F.plain_set_update_loop _]
    show wpAny _ A.in1 (pyNext (.ref J) >>= _) _ _ s
    refine wpAny_bind (W.item i s _ _ lt st fun v h1 tk1 gv st1 kp1 => ?_)
    obtain ⟨tv, rfl⟩ := hv i v gv
    have hS1 : SetI prog w h1 B L ks := by
      obtain ⟨es, ep, t, ho, T⟩ := hS
      exact ⟨es, ep, t, kp1 B _ hBw ho, T⟩
    show wpAny _ A.in1 (holding [Value.int (ns.getD i 0) tv] (setAdd B (.int (ns.getD i 0) tv)) >>= _) _ _ _
    refine wpAny_bind (wpAny_holding ?_)
    unfold setAdd
    refine wpAny_holding ?_
    refine wpAny_bind ((intKind prog w).pyHash (k := ns.getD i 0) (intKind_is _ _ _ _) ?_)
    have ei : ns[i]? = some (ns.getD i 0) := by rw [List.getD_eq_getElem?_getD, List.getElem?_eq_getElem (by omega)]; rfl
    have et := take_snoc ei
    refine add_int (s := { s with heap := h1, toks := tk1 + 1 }) hS1 (by omega) fun h2 ks2 b sb2 hS2 hks => ?_
    have kp12 : ∀ b o, b ∉ wq → b ≠ B → s.heap.get? b = some o → h2.get? b = some o := fun b o hb hne e => by rw [sb2.2 b hne]; exact kp1 b o hb e
    refine wpAny_pure ⟨plainId_quiet PyProof.Rows.F.plain_set_update_loop _, ih (i + 1) _ ks2 (by omega) lt (W.frame _ _ _ st1 fun b hb o e => ?_) hS2 ?_ (fun x => ?_) ?_ fun h3 tk3 ks3 kp3 hS3 nd3 mm3 => ?_⟩
    · show h2.get? b = some o
      rw [sb2.2 b (fun z : b = B => hB (by rw [← z]; exact hb))]; exact e
    · rcases hks with ⟨_, rfl⟩ | ⟨q, p⟩
      · exact nd
      · exact p.nodup_iff.mpr (List.nodup_cons.mpr ⟨q, nd⟩)
    · rw [et, List.mem_append, List.mem_singleton]
      rcases hks with ⟨q, rfl⟩ | ⟨q, p⟩
      · rw [mm x]
        exact ⟨.inl, fun z => z.elim id fun z => by rw [z]; exact (mm _).mp q⟩
      · rw [p.mem_iff, List.mem_cons, mm x]
        exact Or.comm
    · rcases hks with ⟨_, rfl⟩ | ⟨q, p⟩
      · omega
      · rw [p.length_eq, List.length_cons]; omega
    · exact hR h3 tk3 ks3 (fun b o hb hne e => kp3 b o hb hne (kp12 b o hb hne e)) hS3 nd3 mm3
end
section
variable {prog : Program} {w : World} {A : Around} {E : Value → Shared → Prop} {s : Shared}
abbrev setLed (w : World) : Bool := !(w.params.followText "set-order")
abbrev newSetO (ld : Bool) : Obj := { cls := .type "set", dict := none, data := .set #[] 0 (.fresh 0 0 ld) }
theorem new_set (a : Value) {Q₁ : Value → Shared → Prop} (h : Q₁ (.ref s.heap.objs.size) { s with heap := s.heap.push (newSetO (setLed w)) }) :
    codeAny (model prog w) A (.call (.builtin "set.__new__") ⟨[.type "set", a], []⟩) (wants Q₁ E) s := by
  refine codeAny_of_tree ?_
  show wpAny _ A.in1 (do checkBuiltinCall "set.__new__" ⟨[.type "set", a], []⟩; again (.builtin "set.__new__" ⟨[.type "set", a], []⟩)) _ _ s
  refine wpAny_bind (wpAny_of_eq (PySem.F.newCall_set_1 a) (wpAny_pure ⟨plainId_quiet PySem.F.plain_set_new _, codeAny_builtin PySem.F.entry_set_new ?_⟩))
  rw [Around.under_plainId PySem.F.plain_set_new _]
  unfold Builtin.«set.__new__» Builtin.Frozenset.newClass
  have sb := sub_set_self
  obtain ⟨h0, g0, d0, tk0, os0⟩ := s
  dsimp only
  wp_walk
  refine wpAny_askSetting (wpAny_pure ?_)
  dsimp only
  simp only [newObj]
  refine wpAny_bind (wpAny_alloc (wpAny_pure ?_))
  exact wpAny_pure h
theorem setI_new (h : Heap) (ld : Bool) : SetI prog w (h.push (newSetO ld)) h.objs.size ld [] :=
  ⟨#[], 0, .fresh 0 0 ld, Heap.get?_push_size _ rfl, ⟨fun e he => by simp at he, rfl, by decide, by rfl, ⟨rfl, rfl, List.Pairwise.nil⟩⟩⟩
set_option maxRecDepth 100000 in
set_option maxHeartbeats 3200000 in
theorem set_of_list {l : Addr} {its : Array Value} {ns : List Int} {Q : Value → Shared → Prop} (hh : A.handled = none) (hl : s.heap.IsList l its) (hi : PyProof.Rows.IntsAre its.toList ns) (room : its.size + 1 < scanBound)
    (h : ∀ (h' : Heap) (tk : Nat) (ks : List Int), SetI prog w h' s.heap.objs.size (setLed w) ks → ks.Nodup → (∀ x, x ∈ ks ↔ x ∈ ns) → (∀ b o, b < s.heap.objs.size → s.heap.get? b = some o → h'.get? b = some o) → Q (.ref s.heap.objs.size) { s with heap := h', toks := tk }) :
    wpAny (model prog w) A (call (.type "set") [.ref l]) Q E s := by
  obtain ⟨c, tl, mro⟩ := PySem.F.called_set.mro
  have made := PySem.F.called_set.made
  have subs := PySem.F.called_set.sub
  have hnl : ns.length = its.size := by
    have := hi.length
    rw [Array.length_toList] at this
    exact this.symm
  refine wpAny_call (codeAny_of_tree ?_)
  show wpAny _ _ (callAny (.type "set") _) _ _ _
  refine wpAny_pure ⟨Code.quiet_builtin _ (by decide +kernel), codeAny_builtin PySem.F.entry_type_call ?_⟩
  rw [Around.under_plain (weight_type_call_type "set" [.ref l] []) rfl]
  have n1 := PySem.F.called_set.notType
  have n2 := PySem.F.called_set.canCreate
  have n3 := PySem.F.typeCall_set_1 (.ref l)
  repeat (any_goals (first | assumption | wp_step))
  refine codeAny_mono (new_set (.ref l) (E := E) (Q₁ := fun ob s₁ => ob = .ref s.heap.objs.size ∧ s₁ = { s with heap := s.heap.push (newSetO (setLed w)) }) ⟨rfl, rfl⟩) fun r s₁ hr => ?_
  cases r with
  | error e => exact hr
  | ok fl =>
    cases fl with
    | ret ob =>
      obtain ⟨rfl, rfl⟩ := hr
      have gS : (s.heap.push (newSetO (setLed w))).get? s.heap.objs.size = some (newSetO (setLed w)) := Heap.get?_push_size _ rfl
      have gT : Shared.TypeIs { s with heap := s.heap.push (newSetO (setLed w)) } (.ref s.heap.objs.size) "set" := ⟨_, gS, rfl⟩
      have m1 := PySem.F.called_set.init.lookup
      have m2 := PySem.F.called_set.init.bind (.ref s.heap.objs.size)
      repeat (any_goals (first | assumption | wp_step))
      refine codeAny_mono (codeAny_call_builtin (R := wants (fun r s₂ => r = .none ∧ ∃ h' tk ks, s₂ = { s with heap := h', toks := tk } ∧ SetI prog w h' s.heap.objs.size (setLed w) ks ∧ ks.Nodup ∧ (∀ x, x ∈ ks ↔ x ∈ ns) ∧
          (∀ b o, b < s.heap.objs.size → s.heap.get? b = some o → h'.get? b = some o)) E) PySem.F.called_set.init.plain PySem.F.entry_set_init (check_set_init_1 gT ?_)) fun r₂ s₂ hr₂ => ?_
      · obtain ⟨⟨oc, odi, oda, osl⟩, hol, hcl, nl, hdl⟩ := hl
        simp only at hcl hdl
        subst hcl hdl
        have hol' : (s.heap.push (newSetO (setLed w))).get? l = some { cls := .type "list", dict := odi, data := .seq its nl, slots := osl } := Heap.get?_push_of_some _ hol
        have k1 := PySem.F.sub_list_set
        have k2 := PySem.F.sub_list_frozenset
        have k3 : (Value.type "list" == Value.type "dict") = false := by decide
        have gl : (s.heap.push (newSetO (setLed w))).IsList l its := ⟨_, hol', rfl, nl, rfl⟩
        unfold Builtin.«set.__init__» noKeywords Builtin.Frozenset.updateFrom
        generalize qPI : pyIter = PI
        wp_walk
        subst qPI
        refine wpAny_pyIter_list gl ?_
        refine wpAny_bind (wpAny_runValue ?_)
        have ll : l < s.heap.objs.size := Heap.lt_size hol
        have h3 : A.in1.in1.in1.handled = none := by simp [hh]
        have ne : l ≠ (s.heap.push (newSetO (setLed w))).objs.size := by rw [Heap.size_push]; exact Nat.ne_of_lt (Nat.lt_succ_of_lt ll)
        have nf : s.heap.objs.size ∉ [(s.heap.push (newSetO (setLed w))).objs.size, l] := by
          rw [Heap.size_push]; simp only [List.mem_cons, List.not_mem_nil, or_false, not_or]
          exact ⟨Nat.ne_of_lt (Nat.lt_succ_self _), Nat.ne_of_gt ll⟩
        have hv : ∀ (i : Nat) (v : Value), its[i]? = some v → ∃ t, v = .int (ns.getD i 0) t := fun i v hv => PyProof.Rows.IntsAre.int_at hi i v (by rw [Array.getElem?_toList]; exact hv)
        refine set_loop (Walks.list h3 _ l ne its) s.heap.objs.size nf ns hnl hv room (setLed w) its.size 0 _ [] rfl (Nat.zero_le _) ⟨⟨_, Heap.get?_push_size _ rfl, rfl, rfl⟩, gl.push _⟩ ?_ List.nodup_nil (fun x => by simp) (Nat.zero_le _) ?_
        · obtain ⟨es, ep, t, ho, T⟩ := setI_new (prog := prog) (w := w) s.heap (setLed w)
          exact ⟨es, ep, t, Heap.get?_push_of_some _ ho, T⟩
        · intro h' tk ks kp hS nd mm
          show wpAny _ _ _ _ _ _
          refine wpAny_pure ?_
          show wpAny _ _ (ret Value.none) _ _ _
          refine wpAny_pure ⟨rfl, h', tk, ks, rfl, hS, nd, mm, fun b o hb e => ?_⟩
          have b1 : b ≠ s.heap.objs.size := Nat.ne_of_lt hb
          have b2 : b ∉ [(s.heap.push (newSetO (setLed w))).objs.size] := by
            rw [Heap.size_push, List.mem_singleton]; exact Nat.ne_of_lt (Nat.lt_succ_of_lt hb)
          exact kp b o b2 b1 (Heap.get?_push_of_some _ (Heap.get?_push_of_some _ e))
      · cases r₂ with
        | error e => exact hr₂
        | ok fl₂ =>
          cases fl₂ with
          | ret r =>
            obtain ⟨rfl, h', tk, ks, rfl, hS, nd, mm, kp⟩ := hr₂
            repeat (any_goals (first | assumption | wp_step))
            exact h _ _ _ hS nd mm kp
          | _ => exact hr₂.elim
    | _ => exact hr.elim
end
end LX
namespace LX
open PySem PySem.Spec PyProof.Rows L2
open Sem (wp)
theorem slot_sit_next : Slot "set_iterator" "__next__" "set_iterator.__next__" :=
  .of (owner := "set_iterator") (n := "__next__") (by rw [typeLookup_type, builtinLookup_eq_fast]; kernel_rfl) (by decide +kernel) (by decide +kernel) (by decide +kernel)
    (by first | exact .inl (by decide +kernel) | exact .inr (by decide +kernel)) (by rw [isSubtype_type]; kernel_rfl)
theorem entry_sit_next : entryFor table "set_iterator.__next__" = some Builtin.«set_iterator.__next__» := entryFor_of_tree (by kernel_rfl)
theorem args_sit_next (a : Value) : argsOk "set_iterator.__next__" ⟨[a], []⟩ := by unfold argsOk; kernel_rfl
theorem slot_sit_iter : Slot "set_iterator" "__iter__" "set_iterator.__iter__" :=
  .of (owner := "set_iterator") (n := "__iter__") (by rw [typeLookup_type, builtinLookup_eq_fast]; kernel_rfl) (by decide +kernel) (by decide +kernel) (by decide +kernel)
    (by first | exact .inl (by decide +kernel) | exact .inr (by decide +kernel)) (by rw [isSubtype_type]; kernel_rfl)
theorem args_sit_iter (a : Value) : argsOk "set_iterator.__iter__" ⟨[a], []⟩ := by unfold argsOk; kernel_rfl
theorem entry_sit_iter : entryFor table "set_iterator.__iter__" = some Builtin.«dict_keyiterator.__iter__» :=
  entryFor_alias (id' := "dict_keyiterator.__iter__") (by kernel_rfl) (by first | rfl | decide +kernel | (unfold String.splitOn; simp +decide [String.splitOnAux])) (by decide +kernel) (by kernel_rfl)
theorem entry_set_iter : entryFor table "set.__iter__" = some Builtin.«frozenset.__iter__» :=
  entryFor_alias (id' := "frozenset.__iter__") (by kernel_rfl) (by first | rfl | decide +kernel | (unfold String.splitOn; simp +decide [String.splitOnAux])) (by decide +kernel) (by kernel_rfl)
theorem len_set : typeLookup (.type "set") "__len__" = pure (some (.builtin "set.__len__")) := by rw [typeLookup_type, builtinLookup_eq_fast]; kernel_rfl
theorem erase_perm {α : Type} : ∀ (l : List α) (i : Nat) (h : i < l.length), (l[i] :: l.eraseIdx i).Perm l
  | x :: xs, 0, _ => List.Perm.refl _
  | x :: xs, i + 1, h => (List.Perm.swap x (xs[i]'(by simpa using h)) _).trans (List.Perm.cons x (erase_perm xs i (by simpa using h)))
/-- each pick takes one of what is left -/
theorem pick_perm {α : Type} (next : Nat → Nat) : ∀ (fuel k : Nat) (left : List α) (out : Array α), left.length ≤ fuel → (pickOrder.go next fuel k left out).toList.Perm (out.toList ++ left)
  | 0, k, left, out, h => by
    have : left = [] := List.eq_nil_of_length_eq_zero (by omega)
    subst this
    unfold pickOrder.go
    rw [List.append_nil]
  | fuel + 1, k, left, out, h => by
    unfold pickOrder.go
    cases left with
    | nil =>
      simp only [List.getElem?_nil]
      rw [List.append_nil]
    | cons x xs =>
      have hlt : next k % (x :: xs).length < (x :: xs).length := Nat.mod_lt _ (by simp)
      rw [List.getElem?_eq_getElem hlt]
      dsimp only
      have hl : ((x :: xs).eraseIdx (next k % (x :: xs).length)).length ≤ fuel := by
        rw [List.length_eraseIdx_of_lt hlt]
        omega
      refine (pick_perm next fuel (k + 1) _ _ hl).trans ?_
      rw [Array.toList_push, List.append_assoc]
      exact List.Perm.append_left _ (erase_perm _ _ hlt)
theorem picked {α : Type} (next : Nat → Nat) (xs : Array α) : (pickOrder next xs).toList.Perm xs.toList := by
  have := pick_perm next xs.size 0 xs.toList #[] (by simp)
  rw [List.nil_append] at this
  exact this
section
variable {prog : Program} {w : World} {A : Around} {E : Value → Shared → Prop} {s : Shared}
theorem wpAny_choose {src : Source} {n : Nat} {Q : Nat → Shared → Prop} {M : Model} (hn : n ≠ 0) (h : ∀ i d, i < n → Q i { s with drawn := d }) : wpAny M A (choose src n) Q E s :=
  fun _ _ _ => ⟨hn, h _ _ (Nat.mod_lt _ (Nat.pos_of_ne_zero hn))⟩
theorem draw_perm {α : Type} {M : Model} : ∀ (n : Nat) (xs : List α) (s : Shared) {Q : List α → Shared → Prop}, xs.length ≤ n → (∀ ys d, ys.Perm xs → Q ys { s with drawn := d }) → wpAny M A (drawOrder n xs) Q E s
  | 0, xs, s, Q, hl, h => by
    have : xs = [] := List.eq_nil_of_length_eq_zero (by omega)
    subst this
    unfold drawOrder
    exact wpAny_pure (h [] s.drawn (List.Perm.refl _))
  | n + 1, [], s, Q, hl, h => by
    unfold drawOrder
    exact wpAny_pure (h [] s.drawn (List.Perm.refl _))
  | n + 1, x :: xs, s, Q, hl, h => by
    unfold drawOrder
    refine wpAny_bind (wpAny_choose (by simp) fun i d hi => ?_)
    rw [List.getElem?_eq_getElem hi]
    dsimp only
    refine wpAny_bind (draw_perm n _ _ (by rw [List.length_eraseIdx_of_lt hi]; omega) fun ys d2 pm => wpAny_pure ?_)
    exact h _ d2 ((List.Perm.cons _ pm).trans (erase_perm _ _ hi))
abbrev IsSit (h : Heap) (I : Addr) (first : Value) (i : Nat) (S : Addr) (n ep : Nat) : Prop := h.get? I = some { cls := .type "set_iterator", dict := none, data := .fields #[first, rawInt i, .ref S, rawInt n, rawInt ep], slots := #[] }
abbrev IsSet (h : Heap) (S : Addr) (es : Array (Int × Value)) (ep : Nat) (t : SetTable) : Prop := h.get? S = some { cls := .type "set", dict := none, data := .set es ep t, slots := #[] }
/-- how the walk goes: by the world's text, by the places, by a drawn order -/
inductive SWay where
  | txt
  | plc
  | drw (T : Addr) (ps : List Nat)
def slotAt (t : SetTable) : Nat → Nat
  | 0 => 0
  | i + 1 => t.place.getD i 0 + 1
def SWay.first (t : SetTable) (i : Nat) : SWay → Value
  | .txt => rawInt 0
  | .plc => rawInt (slotAt t i)
  | .drw T _ => .ref T
def SWay.walk (w : World) (S : Addr) (ep : Nat) (es : Array (Int × Value)) : SWay → List (Int × Value)
  | .txt => (pickOrder (w.params.setOrder S ep) es).toList
  | .plc => es.toList
  | .drw _ ps => ps.filterMap fun p => es[p]?
def SWay.Ok (w : World) (es : Array (Int × Value)) (t : SetTable) (h : Heap) : SWay → Prop
  | .txt => w.params.followText "set-order" = true
  | .plc => w.params.followText "set-order" = false ∧ (!t.plain && decide (es.size > 1)) = false
  | .drw T ps => ps.Perm (List.range es.size) ∧ h.get? T = some { cls := .type "tuple", dict := none, data := .seq (ps.map fun (p : Nat) => rawInt p).toArray, slots := #[] }
theorem walk_perm {S : Addr} {ep : Nat} {es : Array (Int × Value)} {t : SetTable} {h : Heap} {m : SWay} (ok : m.Ok w es t h) : (m.walk w S ep es).Perm es.toList := by
  cases m with
  | txt => exact picked _ _
  | plc => exact List.Perm.refl _
  | drw T ps =>
    have := ok.1.filterMap (fun p => es[p]?)
    rw [filterMap_getElem?_range] at this
    exact this
theorem drw_at {es : Array (Int × Value)} {ps : List Nat} (hp : ps.Perm (List.range es.size)) {i : Nat} : (ps.filterMap fun p => es[p]?)[i]? = ps[i]?.bind fun p => es[p]? := by
  have all : ∀ p ∈ ps, p < es.size := fun p h => List.mem_range.mp (hp.mem_iff.mp h)
  have e : (ps.filterMap fun p => es[p]?).map some = ps.map fun p => es[p]? := by
    clear hp
    induction ps with
    | nil => rfl
    | cons p ps ih =>
      have h1 := all p (by simp)
      rw [List.filterMap_cons_some (Array.getElem?_eq_getElem h1), List.map_cons, List.map_cons, ih (fun q hq => all q (by simp [hq])), Array.getElem?_eq_getElem h1]
  have e2 := congrArg (·[i]?) e
  simp only [List.getElem?_map] at e2
  cases q : ps[i]? with
  | none =>
    rw [q] at e2
    cases r : (ps.filterMap fun p => es[p]?)[i]? with
    | none => rfl
    | some y => rw [r] at e2; cases e2
  | some p =>
    rw [q] at e2
    cases r : (ps.filterMap fun p => es[p]?)[i]? with
    | none => rw [r] at e2; cases e2
    | some y =>
      rw [r] at e2
      have : some y = es[p]? := Option.some.inj e2
      rw [Option.bind_some]
      exact this
theorem below_at {t : SetTable} {L : Bool} (ok : TOk L t) {i : Nat} (hi : i ≤ t.place.size) : SetTable.below t.place (slotAt t i) = i := by
  obtain ⟨b1, b2, b3⟩ := below_ok ok.up (slotAt t i)
  have mono : ∀ (a b : Nat) x y, t.place[a]? = some x → t.place[b]? = some y → a < b → x < y := fun a b x y hx hy hab => by
    rw [← Array.getElem?_toList] at hx hy
    obtain ⟨h1, rfl⟩ := List.getElem?_eq_some_iff.mp hx
    obtain ⟨h2, rfl⟩ := List.getElem?_eq_some_iff.mp hy
    exact List.pairwise_iff_getElem.mp ok.up a b h1 h2 hab
  have lt : ∀ j, j < i → ∀ x, t.place[j]? = some x → x < slotAt t i := fun j hj x hx => by
    obtain ⟨k, rfl⟩ : ∃ k, i = k + 1 := ⟨i - 1, by omega⟩
    have hk : k < t.place.size := by omega
    have ek : t.place[k]? = some t.place[k] := Array.getElem?_eq_getElem hk
    have es : slotAt t (k + 1) = t.place[k] + 1 := by
      show t.place.getD k 0 + 1 = _
      rw [Array.getD_eq_getD_getElem?, ek]
      rfl
    rw [es]
    rcases Nat.lt_or_ge j k with c | c
    · have := mono j k x _ hx ek c; omega
    · have : j = k := by omega
      subst this
      rw [ek] at hx
      cases hx
      omega
  have ge : ∀ j x, t.place[j]? = some x → i ≤ j → slotAt t i ≤ x := fun j x hx hj => by
    cases i with
    | zero => exact Nat.zero_le _
    | succ k =>
      have hk : k < t.place.size := by omega
      have ek : t.place[k]? = some t.place[k] := Array.getElem?_eq_getElem hk
      have es : slotAt t (k + 1) = t.place[k] + 1 := by
        show t.place.getD k 0 + 1 = _
        rw [Array.getD_eq_getD_getElem?, ek]
        rfl
      rw [es]
      have := mono k j _ x ek hx (by omega)
      omega
  rcases Nat.lt_trichotomy (SetTable.below t.place (slotAt t i)) i with c | c | c
  · have hb : SetTable.below t.place (slotAt t i) < t.place.size := by omega
    have e := Array.getElem?_eq_getElem hb
    have h1 := lt _ c _ e
    have h2 := b3 _ _ e (Nat.le_refl _)
    omega
  · exact c
  · have hb : i < t.place.size := by omega
    have e := Array.getElem?_eq_getElem hb
    have h1 := ge i _ e (Nat.le_refl _)
    have h2 := b2 i _ e c
    omega
end
end LX
namespace LX
open PySem PySem.Spec PyProof.Rows L2
open Sem (wp)
section
variable {prog : Program} {w : World} {A : Around} {E : Value → Shared → Prop} {s : Shared}
theorem by_text {Q : Bool → Shared → Prop} (h : Q (w.params.followText "set-order") s) : wpAny (model prog w) A setsByText Q E s := by
  unfold setsByText
  exact wpAny_bind (wpAny_askSetting (wpAny_pure h))
theorem walk_txt {S : Addr} {es : Array (Int × Value)} {ep : Nat} {t : SetTable} {Q : Array (Int × Value) → Shared → Prop} (hS : IsSet s.heap S es ep t) (ft : t.fits es.size = true) (bt : w.params.followText "set-order" = true) (h : Q (pickOrder (w.params.setOrder S ep) es) s) :
    wpAny (model prog w) A (setWalk S) Q E s := by
  unfold setWalk
  refine wpAny_bind (wpAny_setState_of hS rfl ft ?_)
  dsimp only
  refine wpAny_bind (by_text ?_)
  rw [bt]
  simp only [if_true]
  exact wpAny_bind (wpAny_askSetting (wpAny_pure h))
/-- what setNext tells, by the text or by the places -/
theorem set_next {S : Addr} {es : Array (Int × Value)} {ep : Nat} {t : SetTable} {ks : List Int} {m : SWay} {i : Nat} {Q : Option (Value × Nat) → Shared → Prop} (hS : IsSet s.heap S es ep t) (T : SetT prog w (setLed w) ks es t) (ok : m.Ok w es t s.heap) (hi : i ≤ es.size) (hm : ∀ T' ps, m ≠ .drw T' ps)
    (h : ∀ k : Nat, (∀ r, (m.walk w S ep es)[i]? = some r → m.first t (i + 1) = rawInt k) → Q (((m.walk w S ep es)[i]?).map fun r => (r.2, k)) s) :
    wpAny (model prog w) A (setNext S (match m.first t i with | .int a _ => a.toNat | _ => 0) i ep) Q E s := by
  unfold setNext
  refine wpAny_bind (wpAny_setState_of hS rfl T.ft ?_)
  dsimp only
  refine wpAny_bind (by_text ?_)
  cases m with
  | drw T' ps => exact absurd rfl (hm T' ps)
  | txt =>
    have bt : w.params.followText "set-order" = true := ok
    rw [bt]
    simp only [if_true, bne_self_eq_false, Bool.false_eq_true, if_false]
    refine wpAny_bind (walk_txt hS T.ft bt (wpAny_pure ?_))
    have := h 0 (fun r _ => rfl)
    have e : (SWay.txt.walk w S ep es)[i]? = (pickOrder (w.params.setOrder S ep) es)[i]? := by
      show (pickOrder (w.params.setOrder S ep) es).toList[i]? = _
      rw [Array.getElem?_toList]
    rw [e] at this
    exact this
  | plc =>
    obtain ⟨bt, dr⟩ := ok
    rw [bt]
    simp only [Bool.false_eq_true, if_false]
    show wpAny _ _ (if (!t.plain && decide (es.size > 1)) = true then _ else _) _ _ _
    rw [dr]
    simp only [Bool.false_eq_true, if_false]
    have ld : t.led = true := by rw [T.ok.led]; show (!w.params.followText "set-order") = true; rw [bt]; rfl
    show wpAny _ _ ((if (!t.led && !es.isEmpty) = true then _ else pure ()) >>= _) _ _ _
    rw [ld]
    simp only [Bool.not_true, Bool.false_and, Bool.false_eq_true, if_false]
    refine wpAny_bind (wpAny_pure ?_)
    have hps : t.place.size = es.size := by
      have := T.ft
      unfold SetTable.fits at this
      rw [Bool.and_eq_true] at this
      exact eq_of_beq this.1
    have eb : SetTable.below t.place (match SWay.plc.first t i with | .int a _ => a.toNat | _ => 0) = i := below_at T.ok (by omega)
    rw [eb]
    have ew : (SWay.plc.walk w S ep es)[i]? = es[i]? := by
      show es.toList[i]? = _
      rw [Array.getElem?_toList]
    by_cases c : i < es.size
    · have e1 := Array.getElem?_eq_getElem c
      have e2 := Array.getElem?_eq_getElem (show i < t.place.size by omega)
      rw [e1, e2]
      have := h (t.place[i] + 1) (fun r _ => by
        show rawInt (slotAt t (i + 1)) = _
        show rawInt ((t.place.getD i 0 + 1 : Nat) : Int) = _
        rw [Array.getD_eq_getD_getElem?, e2]
        rfl)
      rw [ew, e1] at this
      exact wpAny_pure this
    · have e1 : es[i]? = none := Array.getElem?_eq_none (by omega)
      rw [e1]
      have := h 0 (fun r hr => by rw [ew, e1] at hr; cases hr)
      rw [ew, e1] at this
      exact wpAny_pure this
theorem sit_item {I S : Addr} {es : Array (Int × Value)} {ep : Nat} {t : SetTable} {ks : List Int} {m : SWay} {i : Nat} {r : Int × Value} {Q : Option Value → Shared → Prop} (hI : IsSit s.heap I (m.first t i) i S es.size ep) (hS : IsSet s.heap S es ep t) (T : SetT prog w (setLed w) ks es t) (ok : m.Ok w es t s.heap) (hr : (m.walk w S ep es)[i]? = some r)
    (hQ : ∀ h', IsSit h' I (m.first t (i + 1)) (i + 1) S es.size ep → Heap.SameBut I s.heap h' → Q (some r.2) { s with heap := h' }) : wpAny (model prog w) A (pyNext (.ref I)) Q E s := by
  have hT : s.TypeIs (.ref I) "set_iterator" := ⟨_, hI, rfl⟩
  have hi : i < es.size := by
    have h1 := (List.getElem?_eq_some_iff.mp hr).1
    have h2 : (m.walk w S ep es).length = es.size := by rw [(walk_perm (S := S) (ep := ep) ok).length_eq, Array.length_toList]
    omega
  unfold pyNext
  refine wpAny_bind (wpAny_attempt (wpAny_callSpecial?_slot (name := Str.ofString "__next__") hT slot_sit_next
    (wpAny_call_entry slot_sit_next hT entry_sit_next ?_ (args_sit_next _))))
  unfold Builtin.«set_iterator.__next__»
  refine wpAny_bind (wpAny_of_eq (a := (Value.ref I, [])) rfl ?_)
  dsimp only
  refine wpAny_bind (wpAny_fieldsOf hI rfl ?_)
  have fin : ∀ (f' : Value) (h' : Heap), IsSit h' I f' (i + 1) S es.size ep → f' = m.first t (i + 1) → Heap.SameBut I s.heap h' → ∃ v, Fin.done (.ret r.2) = .done (.ret v) ∧ wpAny (model prog w) A (pure (some v)) Q E { s with heap := h' } := fun f' h' h1 h2 h3 => ⟨_, rfl, wpAny_pure (hQ h' (h2 ▸ h1) h3)⟩
  have nz : (((es.size : Nat) : Int) != ((es.size : Nat) : Int)) = false := by simp
  cases m with
  | drw T' ps =>
    obtain ⟨pm, hT'⟩ := ok
    show wpAny _ _ (setEntries S >>= _) _ _ _
    refine wpAny_bind (wpAny_setEntries_of hS rfl T.ft ?_)
    rw [nz]
    simp only [Bool.false_eq_true, if_false]
    show wpAny _ _ (seqItems? (.ref T') >>= _) _ _ _
    refine wpAny_bind (wpAny_seqItems hT' rfl ?_)
    have e0 : (ps.filterMap fun p => es[p]?)[i]? = some r := hr
    rw [drw_at pm] at e0
    obtain ⟨p, hp, ep'⟩ := Option.bind_eq_some_iff.mp e0
    have e1 : (ps.map fun (p : Nat) => rawInt p).toArray[((i : Nat) : Int).toNat]? = some (rawInt p) := by
      rw [Int.toNat_natCast, List.getElem?_toArray, List.getElem?_map, hp]
      rfl
    dsimp only [Option.getD]
    rw [e1]
    show wpAny _ _ (setNextDrawn S _ _ >>= _) _ _ _
    refine wpAny_bind ?_
    unfold setNextDrawn
    refine wpAny_bind (wpAny_setState_of hS rfl T.ft ?_)
    dsimp only
    rw [Int.toNat_natCast, Int.toNat_natCast]
    simp only [bne_self_eq_false, Bool.false_eq_true, if_false]
    rw [ep']
    refine wpAny_pure ?_
    refine wpAny_bind (wpAny_setField_rec hI (by simp) fun g1 q1 sb1 => ?_)
    exact wpAny_pure (fin _ g1 q1 rfl sb1)
  | txt =>
    show wpAny _ _ (setEntries S >>= _) _ _ _
    refine wpAny_bind (wpAny_setEntries_of hS rfl T.ft ?_)
    rw [nz]
    simp only [Bool.false_eq_true, if_false]
    show wpAny _ _ (setNext S _ _ _ >>= _) _ _ _
    refine wpAny_bind (set_next (m := .txt) (i := i) (ep := ep) hS T ok (by omega) (fun _ _ z => nomatch z) fun k hk => ?_)
    rw [hr]
    dsimp only [Option.map]
    refine wpAny_bind (wpAny_setField_rec hI (by simp) fun g1 q1 sb1 => ?_)
    replace q1 : IsSit g1 I (rawInt k) i S es.size ep := q1
    refine wpAny_bind (wpAny_setField_rec q1 (by simp) fun g2 q2 sb2 => ?_)
    exact wpAny_pure (fin _ g2 q2 (hk r hr).symm (sb1.trans sb2))
  | plc =>
    show wpAny _ _ (setEntries S >>= _) _ _ _
    refine wpAny_bind (wpAny_setEntries_of hS rfl T.ft ?_)
    rw [nz]
    simp only [Bool.false_eq_true, if_false]
    show wpAny _ _ (setNext S _ _ _ >>= _) _ _ _
    refine wpAny_bind (set_next (m := .plc) (i := i) (ep := ep) hS T ok (by omega) (fun _ _ z => nomatch z) fun k hk => ?_)
    rw [hr]
    dsimp only [Option.map]
    refine wpAny_bind (wpAny_setField_rec hI (by simp) fun g1 q1 sb1 => ?_)
    replace q1 : IsSit g1 I (rawInt k) i S es.size ep := q1
    refine wpAny_bind (wpAny_setField_rec q1 (by simp) fun g2 q2 sb2 => ?_)
    exact wpAny_pure (fin _ g2 q2 (hk r hr).symm (sb1.trans sb2))
theorem stop_now {α : Type} {Q : α → Shared → Prop} (hh : A.handled = none) (h : ∀ h' e, (∀ b o, s.heap.get? b = some o → h'.get? b = some o) → (∃ o, h'.get? e = some o ∧ o.cls = .type "StopIteration") → E (.ref e) { s with heap := h' }) :
    wpAny (model prog w) A (newExc (.type "StopIteration") [] >>= fun x => raiseNew x) Q E s := by
  refine wpAny_bind ?_
  simp only [newExc, newTuple]
  refine wpAny_bind (wpAny_newObj_type ?_ (by size_fits))
  refine wpAny_bind (m := firstArgMember _ _) (wpAny_of_eq (a := Value.none) (by first | rfl | (simp only [firstArgMember]; rfl)) ?_)
  refine wpAny_newObj_type ?_ (by size_fits)
  simp only [raiseNew]
  refine wpAny_bind (wpAny_handled ?_)
  rw [hh]
  refine wpAny_bind (wpAny_pure (wpAny_throw ?_))
  exact h _ _ (fun b o e => Heap.get?_push_of_some _ (Heap.get?_push_of_some _ e)) ⟨_, Heap.get?_push_size _ rfl, rfl⟩
theorem sit_end {I S : Addr} {es : Array (Int × Value)} {ep : Nat} {t : SetTable} {ks : List Int} {m : SWay} {Q : Option Value → Shared → Prop} (hh : A.handled = none) (hI : IsSit s.heap I (m.first t es.size) es.size S es.size ep) (hS : IsSet s.heap S es ep t) (T : SetT prog w (setLed w) ks es t) (ok : m.Ok w es t s.heap)
    (hQ : ∀ h', Heap.ExtBut I s.heap h' → Q none { s with heap := h' }) : wpAny (model prog w) A (pyNext (.ref I)) Q E s := by
  have hT : s.TypeIs (.ref I) "set_iterator" := ⟨_, hI, rfl⟩
  have wl : (m.walk w S ep es).length = es.size := by rw [(walk_perm (S := S) (ep := ep) ok).length_eq, Array.length_toList]
  have hr : (m.walk w S ep es)[es.size]? = none := List.getElem?_eq_none (by omega)
  unfold pyNext
  refine wpAny_bind (wpAny_attempt (wpAny_callSpecial?_slot (name := Str.ofString "__next__") hT slot_sit_next
    (wpAny_call_entry slot_sit_next hT entry_sit_next ?_ (args_sit_next _))))
  unfold Builtin.«set_iterator.__next__»
  refine wpAny_bind (wpAny_of_eq (a := (Value.ref I, [])) rfl ?_)
  dsimp only
  refine wpAny_bind (wpAny_fieldsOf hI rfl ?_)
  have nz : (((es.size : Nat) : Int) != ((es.size : Nat) : Int)) = false := by simp
  have fin : ∀ (h' : Heap) (e : Addr), Heap.ExtBut I s.heap h' → (∃ o, h'.get? e = some o ∧ o.cls = .type "StopIteration") → wpAny (model prog w) A (do
      let b ← isInstance (.ref e) (Value.type "StopIteration")
      if b = true then pure none else throw (.ref e)) Q E { s with heap := h' } := fun h' e h1 ⟨o, h2, h3⟩ =>
    wpAny_bind (wpAny_isInstance (T := "StopIteration") (b := true) ⟨o, h2, h3⟩ isSubtype_stop (wpAny_pure (hQ h' h1)))
  cases m with
  | drw T' ps =>
    obtain ⟨pm, hT'⟩ := ok
    show wpAny _ _ (setEntries S >>= _) _ _ _
    refine wpAny_bind (wpAny_setEntries_of hS rfl T.ft ?_)
    rw [nz]
    simp only [Bool.false_eq_true, if_false]
    show wpAny _ _ (seqItems? (.ref T') >>= _) _ _ _
    refine wpAny_bind (wpAny_seqItems hT' rfl ?_)
    have e1 : (ps.map fun (p : Nat) => rawInt p).toArray[((es.size : Nat) : Int).toNat]? = none := by
      have := pm.length_eq
      rw [List.length_range] at this
      rw [Int.toNat_natCast, List.getElem?_toArray, List.getElem?_eq_none (by rw [List.length_map]; omega)]
    dsimp only [Option.getD]
    rw [e1]
    dsimp only
    refine wpAny_bind (wpAny_setField_rec hI (by simp) fun g1 q1 sb1 => ?_)
    replace q1 : IsSit g1 I (rawInt 0) es.size S es.size ep := q1
    refine wpAny_bind (wpAny_setField_rec q1 (by simp) fun g2 q2 sb2 => ?_)
    exact stop_now (A := A.in1) hh fun h' e kp he => fin h' e (fun b o hb q => kp b o (sb2.extBut b o hb (sb1.extBut b o hb q))) he
  | txt =>
    show wpAny _ _ (setEntries S >>= _) _ _ _
    refine wpAny_bind (wpAny_setEntries_of hS rfl T.ft ?_)
    rw [nz]
    simp only [Bool.false_eq_true, if_false]
    show wpAny _ _ (setNext S _ _ _ >>= _) _ _ _
    refine wpAny_bind (set_next (m := .txt) (i := es.size) (ep := ep) hS T ok (Nat.le_refl _) (fun _ _ z => nomatch z) fun k hk => ?_)
    rw [hr]
    dsimp only [Option.map]
    refine wpAny_bind (wpAny_setField_rec hI (by simp) fun g1 q1 sb1 => ?_)
    exact stop_now (A := A.in1) hh fun h' e kp he => fin h' e (fun b o hb q => kp b o (sb1.extBut b o hb q)) he
  | plc =>
    show wpAny _ _ (setEntries S >>= _) _ _ _
    refine wpAny_bind (wpAny_setEntries_of hS rfl T.ft ?_)
    rw [nz]
    simp only [Bool.false_eq_true, if_false]
    show wpAny _ _ (setNext S _ _ _ >>= _) _ _ _
    refine wpAny_bind (set_next (m := .plc) (i := es.size) (ep := ep) hS T ok (Nat.le_refl _) (fun _ _ z => nomatch z) fun k hk => ?_)
    rw [hr]
    dsimp only [Option.map]
    refine wpAny_bind (wpAny_setField_rec hI (by simp) fun g1 q1 sb1 => ?_)
    exact stop_now (A := A.in1) hh fun h' e kp he => fin h' e (fun b o hb q => kp b o (sb1.extBut b o hb q)) he
/-- walking the set, each of it once -/
theorem walks_set {I S : Addr} {es : Array (Int × Value)} {ep : Nat} {t : SetTable} {ks : List Int} {m : SWay} (hh : A.handled = none) (T : SetT prog w (setLed w) ks es t) (fp : List Addr) (hI : I ∈ fp) (hS : S ∈ fp) (hd : ∀ T' ps, m = .drw T' ps → T' ∈ fp ∧ T' ≠ I) (hSI : S ≠ I) :
    Walks prog w A I fp [I] es.size (fun i v => ∃ r, (m.walk w S ep es)[i]? = some r ∧ v = r.2) (fun i h => i ≤ es.size ∧ IsSit h I (m.first t i) i S es.size ep ∧ IsSet h S es ep t ∧ m.Ok w es t h) := by
  have keep : ∀ h h', m.Ok w es t h → (∀ b ∈ fp, ∀ o, b ≠ I → h.get? b = some o → h'.get? b = some o) → m.Ok w es t h' := fun h h' q k => by
    cases m with
    | txt => exact q
    | plc => exact q
    | drw T' ps => exact ⟨q.1, k T' (hd T' ps rfl).1 _ (hd T' ps rfl).2 q.2⟩
  refine ⟨fun b hb => by rw [List.mem_singleton.mp hb]; exact hI, fun i h h' ⟨q0, q1, q2, q3⟩ k => ⟨q0, k I hI _ q1, k S hS _ q2, keep h h' q3 fun b hb o _ e => k b hb o e⟩, ?_, ?_, ?_⟩
  · intro i s Q E hi ⟨q0, q1, q2, q3⟩ hQ
    have wl : (m.walk w S ep es).length = es.size := by rw [(walk_perm (S := S) (ep := ep) q3).length_eq, Array.length_toList]
    have e := List.getElem?_eq_getElem (show i < (m.walk w S ep es).length by omega)
    refine sit_item q1 q2 T q3 e fun h' g1 sb => ?_
    exact hQ _ h' s.toks ⟨_, e, rfl⟩ ⟨by omega, g1, sb.extBut _ _ hSI q2, keep _ _ q3 fun b _ o hne e => sb.extBut b o hne e⟩ fun b o hb e => sb.extBut b o (fun z => hb (List.mem_singleton.mpr z)) e
  · intro s Q E ⟨q0, q1, q2, q3⟩ hQ
    refine sit_end hh q1 q2 T q3 fun h' eb => ?_
    exact hQ h' s.toks fun b o hb e => eb b o (fun z => hb (List.mem_singleton.mpr z)) e
  · intro i s Q E ⟨q0, q1, q2, q3⟩ hQ
    have hT : s.TypeIs (.ref I) "set_iterator" := ⟨_, q1, rfl⟩
    refine wpAny_pyIter_slot hT slot_sit_iter (wpAny_call_entry slot_sit_iter hT entry_sit_iter ?_ (args_sit_iter _))
    show wpAny _ _ (ret (.ref I)) _ _ s
    exact wpAny_pure ⟨_, rfl, "set_iterator", _, hT, slot_sit_next.lookup, hQ⟩
end
end LX
namespace LX
open PySem PySem.Spec PyProof.Rows L2
open Sem (wp)
section
variable {prog : Program} {w : World} {A : Around} {E : Value → Shared → Prop} {s : Shared}
theorem set_drawn {S : Addr} {es : Array (Int × Value)} {ep : Nat} {t : SetTable} {Q : Bool → Shared → Prop} (hS : IsSet s.heap S es ep t) (ft : t.fits es.size = true) (h : Q (!(w.params.followText "set-order") && (!t.plain && decide (es.size > 1))) s) : wpAny (model prog w) A (setDrawn S) Q E s := by
  unfold setDrawn
  refine wpAny_bind (wpAny_setState_of hS rfl ft ?_)
  dsimp only
  exact wpAny_bind (by_text (wpAny_pure h))
theorem iter_set {S : Addr} {es : Array (Int × Value)} {ep : Nat} {t : SetTable} {Q : Value → Shared → Prop} (hS : IsSet s.heap S es ep t) (ft : t.fits es.size = true) (hz : es.size ≤ 1000)
    (h : ∀ (m : SWay) (I : Addr) (h' : Heap) (d : Drawn), IsSit h' I (m.first t 0) 0 S es.size ep → m.Ok w es t h' → (∀ T' ps, m = .drw T' ps → s.heap.objs.size ≤ T' ∧ T' ≠ I) → s.heap.objs.size ≤ I → (∀ b o, s.heap.get? b = some o → h'.get? b = some o) → Q (.ref I) { s with heap := h', drawn := d }) :
    wpAny (model prog w) A (pyIter (.ref S)) Q E s := by
  have hT : s.TypeIs (.ref S) "set" := ⟨_, hS, rfl⟩
  refine wpAny_pyIter_slot hT PySem.F.slot_set_iter (wpAny_call_entry PySem.F.slot_set_iter hT entry_set_iter ?_ (PySem.F.args_set_iter_1 _))
  unfold Builtin.«frozenset.__iter__»
  refine wpAny_bind (wpAny_of_eq (a := S) rfl ?_)
  refine wpAny_bind ?_
  unfold Builtin.Frozenset.sizeOf
  refine wpAny_bind (wpAny_setEntries_of hS rfl ft (wpAny_pure ?_))
  refine wpAny_bind (set_drawn hS ft ?_)
  cases c : (!(w.params.followText "set-order") && (!t.plain && decide (es.size > 1))) with
  | true =>
    simp only [if_true]
    refine wpAny_bind (draw_perm es.size (List.range es.size) s (by simp) fun ps d pm => ?_)
    have pl := pm.length_eq
    rw [List.length_range] at pl
    refine wpAny_bind (wpAny_newTuple ?_ (by rw [List.length_map]; exact Nat.le_of_lt (small1000 (by omega))))
    dsimp only
    have up : ∀ b o, s.heap.get? b = some o → (s.heap.push { cls := .type "tuple", data := .seq (ps.map fun (i : Nat) => rawInt i).toArray }).get? b = some o := fun b o e => Heap.get?_push_of_some _ e
    refine wpAny_bind (wpAny_setEpoch_of (up _ _ hS) rfl ft ?_)
    refine wpAny_bind (wpAny_newObj_type ?_ (by size_fits))
    refine wpAny_pure ⟨_, rfl, "set_iterator", _, ⟨_, Heap.get?_push_size _ rfl, rfl⟩, slot_sit_next.lookup, ?_⟩
    refine h (.drw s.heap.objs.size ps) _ _ d (Heap.get?_push_size _ rfl) ⟨pm, Heap.get?_push_of_some _ (Heap.get?_push_size _ rfl)⟩ (fun T' ps' e => ?_) ?_ (fun b o e => Heap.get?_push_of_some _ (up b o e))
    · cases e
      rw [Heap.size_push]
      exact ⟨Nat.le_refl _, Nat.ne_of_lt (Nat.lt_succ_self _)⟩
    · rw [Heap.size_push]
      exact Nat.le_succ _
  | false =>
    simp only [Bool.false_eq_true, if_false]
    refine wpAny_bind (wpAny_pure ?_)
    refine wpAny_bind (wpAny_setEpoch_of hS rfl ft ?_)
    refine wpAny_bind (wpAny_newObj_type ?_ (by size_fits))
    refine wpAny_pure ⟨_, rfl, "set_iterator", _, ⟨_, Heap.get?_push_size _ rfl, rfl⟩, slot_sit_next.lookup, ?_⟩
    cases bt : w.params.followText "set-order" with
    | true => exact h .txt _ _ s.drawn (Heap.get?_push_size _ rfl) bt (fun _ _ e => nomatch e) (Nat.le_refl _) (fun b o e => Heap.get?_push_of_some _ e)
    | false =>
      rw [bt] at c
      exact h .plc _ _ s.drawn (Heap.get?_push_size _ rfl) ⟨bt, c⟩ (fun _ _ e => nomatch e) (Nat.le_refl _) (fun b o e => Heap.get?_push_of_some _ e)
theorem sub_set_type : isSubtype (.type "set") (.type "set") = pure true := sub_set_self
/-- the items of a set, in a list of their own -/
theorem collect_set {S : Addr} {es : Array (Int × Value)} {ep : Nat} {t : SetTable} {ks : List Int} {Q : List Value → Shared → Prop} (hh : A.handled = none) (hS : IsSet s.heap S es ep t) (T : SetT prog w (setLed w) ks es t) (hz : es.size ≤ 1000)
    (h : ∀ (vs : List Value) (h' : Heap) (tk : Nat) (d : Drawn), vs.Perm (es.toList.map (·.2)) → s.heap.objs.size ≤ h'.objs.size → (∀ b o, s.heap.get? b = some o → h'.get? b = some o) → Q vs { s with heap := h', toks := tk, drawn := d }) :
    wpAny (model prog w) A (collect (.ref S)) Q E s := by
  unfold collect
  refine wpAny_bind (wpAny_runValue (codeAny_builtin PyProof.Rows.entry_proto_collect' ?_))
  show wpAny _ _ (do again (.builtin "list.__iadd__" ⟨[← newList [], .ref S], []⟩)) _ _ s
  refine wpAny_bind (wpAny_newList (wpAny_pure ⟨Code.quiet_builtin _ (by decide +kernel), codeAny_builtin PyProof.Rows.entry_list_iadd' ?_⟩))
  show wpAny _ _ (Builtin.List.listExtendWith (.ref s.heap.objs.size) (.ref S) (.ref s.heap.objs.size)) _ _ { s with heap := s.heap.push (PyProof.Rows.seqObj "list" #[] 0) }
  have hS0 : IsSet (s.heap.push (PyProof.Rows.seqObj "list" #[] 0)) S es ep t := Heap.get?_push_of_some _ hS
  have g0 : (s.heap.push (PyProof.Rows.seqObj "list" #[] 0)).get? s.heap.objs.size = some { cls := .type "list", dict := none, data := .seq #[] 0, slots := #[] } := Heap.get?_push_size _ rfl
  have nS : s.heap.objs.size ≠ S := Nat.ne_of_gt (Heap.lt_size hS)
  have old0 : ∀ b o, s.heap.get? b = some o → (s.heap.push (PyProof.Rows.seqObj "list" #[] 0)).get? b = some o := fun b o e => Heap.get?_push_of_some _ e
  have low : ∀ b o, s.heap.get? b = some o → b ≠ s.heap.objs.size := fun b o e => Nat.ne_of_lt (Heap.lt_size e)
  have hsz : (s.heap.push (PyProof.Rows.seqObj "list" #[] 0)).objs.size = s.heap.objs.size + 1 := Heap.size_push ..
  generalize hL : s.heap.objs.size = L0 at g0 nS low hsz
  generalize s.heap.push (PyProof.Rows.seqObj "list" #[] 0) = g at hS0 g0 old0 hsz ⊢
  have h1 : Builtin.List.listSameRef (.ref L0) (.ref S) = false := by simp [Builtin.List.listSameRef, nS]
  unfold Builtin.List.listExtendWith
  refine wpAny_bind (wpAny_typeOf (T := "set") ⟨_, hS0, rfl⟩ ?_)
  rw [if_neg (by rw [h1]; decide)]
  refine wpAny_bind (iter_set (s := { s with heap := g }) hS0 T.ft hz fun m I h1 d q1 q2 q3 q4 q5 => ?_)
  have hT1 : ({ s with heap := h1, drawn := d } : Shared).TypeIs (.ref S) "set" := ⟨_, q5 _ _ hS0, rfl⟩
  refine wpAny_bind (wpAny_holding ?_)
  unfold Builtin.List.listLengthHint
  refine wpAny_bind (wpAny_specialOf hT1 len_set ?_)
  (generalize hid : ("set.__len__" : String) = id0; wp_delta; rw [show splitId id0 = some ("set", "__len__") from by subst hid; decide +kernel]; subst hid)
  refine wpAny_bind (wpAny_isInstance (b := true) hT1 sub_set_type ?_)
  rw [if_neg (by decide)]
  refine wpAny_ite ?_
  rw [if_pos (by decide +kernel)]
  refine wpAny_bind (wpAny_typeOf hT1 ?_)
  refine wpAny_pure ?_
  rw [if_pos (by decide)]
  refine wpAny_bind (wpAny_rule (wpAny_bind ?_))
  have g1 := q5 _ _ g0
  show wpAny _ _ (updateSeq L0 (·.push .none) >>= fun _ => updateSeq L0 (·.pop)) _ _ _
  refine wpAny_bind (wpAny_updateSeq g1 rfl ?_ (by simp) (by simp))
  obtain ⟨c3, g2⟩ : ∃ c3, (h1.update L0 (Obj.mapSeq (·.push .none))).get? L0 = some { cls := .type "list", dict := none, data := .seq #[.none] c3, slots := #[] } := ⟨_, Heap.get?_update_self _ g1 rfl⟩
  refine wpAny_updateSeq g2 rfl ?_ (by show 1 ≤ sizeLine; decide) (by simp)
  obtain ⟨c4, g3⟩ : ∃ c4, ((h1.update L0 (Obj.mapSeq (·.push .none))).update L0 (Obj.mapSeq (·.pop))).get? L0 = some { cls := .type "list", dict := none, data := .seq #[] c4, slots := #[] } := ⟨_, Heap.get?_update_self _ g2 rfl⟩
  have oth : ∀ b o, b ≠ L0 → h1.get? b = some o → ((h1.update L0 (Obj.mapSeq (·.push .none))).update L0 (Obj.mapSeq (·.pop))).get? b = some o := fun b o hb e => (Heap.get?_update_other _ _ (Ne.symm hb)).trans ((Heap.get?_update_other _ _ (Ne.symm hb)).trans e)
  clear g1 g2 hT1
  generalize (h1.update L0 (Obj.mapSeq (·.push .none))).update L0 (Obj.mapSeq (·.pop)) = h3 at g3 oth ⊢
  have nI : I ≠ L0 := fun e => by
    have : g.objs.size ≤ I := q4
    rw [hsz, e] at this
    exact absurd this (Nat.not_succ_le_self _)
  have nT : ∀ T' ps, m = .drw T' ps → T' ≠ L0 ∧ T' ≠ I := fun T' ps e => by
    obtain ⟨z1, z2⟩ := q3 T' ps e
    refine ⟨fun e2 => ?_, z2⟩
    have z1 : g.objs.size ≤ T' := z1
    rw [hsz, e2] at z1
    exact absurd z1 (Nat.not_succ_le_self _)
  have nSI : S ≠ I := fun e => by
    have q1' := q1
    unfold IsSit at q1'
    have hS1 := q5 _ _ hS0
    rw [e] at hS1
    rw [hS1] at q1'
    exact absurd (congrArg Obj.cls (Option.some.inj q1')) (by simp)
  have okk : m.Ok w es t h3 := by
    cases m with
    | txt => exact q2
    | plc => exact q2
    | drw T' ps => exact ⟨q2.1, oth _ _ (nT T' ps rfl).1 q2.2⟩
  have hWs : ∃ fp, L0 ∉ fp ∧ Walks prog w A.in1 I fp [I] es.size (fun i v => ∃ r, (m.walk w S ep es)[i]? = some r ∧ v = r.2) (fun i h => i ≤ es.size ∧ IsSit h I (m.first t i) i S es.size ep ∧ IsSet h S es ep t ∧ m.Ok w es t h) := by
    cases m with
    | txt => exact ⟨[I, S], by simp [Ne.symm nI, nS], walks_set (A := A.in1) hh T [I, S] (by simp) (by simp) (fun _ _ e => nomatch e) nSI⟩
    | plc => exact ⟨[I, S], by simp [Ne.symm nI, nS], walks_set (A := A.in1) hh T [I, S] (by simp) (by simp) (fun _ _ e => nomatch e) nSI⟩
    | drw T' ps => exact ⟨[I, S, T'], by simp [Ne.symm nI, nS, Ne.symm (nT T' ps rfl).1], walks_set (A := A.in1) hh T [I, S, T'] (by simp) (by simp) (fun _ _ e => by cases e; exact ⟨by simp, (nT _ _ rfl).2⟩) nSI⟩
  obtain ⟨fp, hLf, W⟩ := hWs
  refine wpAny_pure ⟨plainId_quiet PySem.F.plain_extend_loop _, codeAny_extend_loopS W.toS (Nat.le_of_lt (small1000 hz)) _ hLf _ es.size 0 _ _ _ rfl (Nat.zero_le _) ⟨Nat.zero_le _, oth _ _ nI q1, oth _ _ (Ne.symm nS) (q5 _ _ hS0), okk⟩ g3 (ItemsOf.nil _) fun s' acc' c' hm hS' hacc => ?_⟩
  dsimp only
  refine wpAny_bind (wpAny_load hS' (wpAny_pure ?_))
  rw [Moved.eq_with hm]
  refine h acc'.toList s'.heap s'.toks d ?_ (by rw [hL]; exact Nat.le_of_lt (Heap.lt_size hS')) fun b o e => ?_
  · obtain ⟨hz1, hz2⟩ := hacc
    have wl : (m.walk w S ep es).length = es.size := by rw [(walk_perm (S := S) (ep := ep) okk).length_eq, Array.length_toList]
    have e : acc'.toList = (m.walk w S ep es).map (·.2) := by
      refine List.ext_getElem (by rw [Array.length_toList, List.length_map]; omega) fun i h1 h2 => ?_
      rw [Array.length_toList] at h1
      obtain ⟨r, hr, ev⟩ := hz2 i acc'[i] (Array.getElem?_eq_getElem h1)
      rw [List.getElem_map, Array.getElem_toList, ev]
      rw [List.getElem?_eq_getElem (by omega)] at hr
      rw [Option.some.inj hr]
    rw [e]
    exact (walk_perm okk).map _
  · have hb : b ≠ L0 := low b o e
    have hbI : b ≠ I := fun z => by
      have hb2 := Heap.lt_size (old0 b o e)
      have : g.objs.size ≤ I := q4
      rw [← z] at this
      exact absurd hb2 (Nat.not_lt.mpr this)
    exact hm.heap b o (by simp [hb, hbI]) (oth b o hb (q5 b o (old0 b o e)))
theorem sorted_set {S : Addr} {ks : List Int} {Q : Value → Shared → Prop} (hh : A.handled = none) (hS : SetI prog w s.heap S (setLed w) ks) (hz : ks.length < 64)
    (h : ∀ (out : Array Value) (ns : List Int) (l : Addr) (h' : Heap) (tk : Nat) (d : Drawn), IntsAre out.toList ns → ns.Perm ks → ns.Pairwise (· ≤ ·) → s.heap.objs.size ≤ l → (∃ c, h'.get? l = some { cls := .type "list", dict := none, data := .seq out c, slots := #[] }) → (∀ b o, s.heap.get? b = some o → h'.get? b = some o) → Q (.ref l) { s with heap := h', toks := tk, drawn := d }) :
    wpAny (model prog w) A (call (.builtin "sorted") [.ref S]) Q E s := by
  obtain ⟨es, ep, t, ho, T⟩ := hS
  have hl := T.len
  refine Calls.call_function_entry PyProof.Rows.kind_sorted PyProof.Rows.plain_sorted PyProof.Rows.entry_sorted (PyProof.Rows.args_sorted1 _) ?_
  unfold Builtin.«sorted»
  refine wpAny_bind (m := checkCount "sorted" 1 1 _) (wpAny_pure ?_)
  refine wpAny_bind (collect_set (A := A.in1) hh ho T (by omega) fun vs h1 tk1 d1 pm hlo kp1 => ?_)
  have vl : vs.length = es.size := by rw [pm.length_eq, List.length_map, Array.length_toList]
  have hI : ∃ ms, IntsAre vs ms ∧ ms.Perm ks := by
    have all : ∀ v ∈ vs, ∃ i t, v = Value.int i t := fun v hv => by
      obtain ⟨e, he, rfl⟩ := List.mem_map.mp (pm.mem_iff.mp hv)
      obtain ⟨⟨k', hk, _⟩, _⟩ := T.el e he
      obtain ⟨tk, e2⟩ := int_of_is hk
      exact ⟨k', tk, e2⟩
    refine ⟨vs.map ivl, ?_, ?_⟩
    · clear pm vl
      induction vs with
      | nil => exact .nil
      | cons v vs ih =>
        obtain ⟨i, t, rfl⟩ := all v (by simp)
        exact .cons _ _ (ih fun v hv => all v (by simp [hv]))
    · have := pm.map ivl
      rw [List.map_map] at this
      rw [← T.ks]
      exact this
  obtain ⟨ms, hI, pk⟩ := hI
  refine wpAny_bind (wpAny_newList ?_)
  have hoL : (h1.push (PyProof.Rows.seqObj "list" vs.toArray 0)).get? h1.objs.size = some (PyProof.Rows.seqObj "list" vs.toArray 0) := Heap.get?_push_size _ rfl
  refine wpAny_bind (wpAny_holding (wpAny_call_entry PyProof.Rows.slot_list_sort ⟨_, hoL, rfl⟩ PyProof.Rows.entry_list_sort (PyProof.Rows.list_sort_tree hoL hI (by omega) fun out ns a1 a2 a3 => ⟨_, rfl, ?_⟩) (PyProof.Rows.args_list_sort _)))
  obtain ⟨c, hc⟩ := PyProof.Rows.sortedHeap_at (vs := vs) (out := out) hoL
  refine wpAny_pure ⟨_, rfl, h out ns h1.objs.size _ tk1 d1 a1 (a2.trans pk) a3 hlo ⟨c, hc⟩ fun b o e => ?_⟩
  have e1 := kp1 b o e
  have lt := Heap.lt_size e1
  exact (PyProof.Rows.sortedHeap_old (Nat.ne_of_lt lt) (by rw [Heap.size_push]; exact Nat.lt_succ_of_lt lt)).trans (Heap.get?_push_of_some _ e1)
end
end LX
namespace LX
open PySem PySem.Spec PyProof.Rows L2
section
variable {X : Cx}
/-- a set of whole numbers -/
def setO (P : Program) (w : World) (a : Addr) (ks : List Int) : HO := .ext fun h => SetI P w h a (setLed w) ks
theorem call_setI (hc : X.calm = true) : CallR X (.type "set") (fun xs H Q => ∃ (p : Addr) (ns : List Int), xs = [.ref p] ∧ SqL X.K H p (ns.map V.int) ∧ ns.length < 64 ∧ ∀ (ks : List Int) (l : Addr), ks.Nodup → (∀ x, x ∈ ks ↔ x ∈ ns) → H l = none → Q (.ref l) (upd H l (setO X.prog X.w l ks))) := by
  intro pins s σ H xs us Q I r h
  obtain ⟨p, ns, rfl, hp, hn, q⟩ := h
  obtain ⟨u, rfl, rx⟩ := vals1 r
  cases rx
  obtain ⟨its, hi, hl, e⟩ := Inv.listI I hp
  refine set_of_list (I.ok.hd hc) hl hi (by rw [List.size_toArray, e]; exact Nat.lt_of_le_of_lt (Nat.succ_le_of_lt hn) (by decide)) fun h' tk ks g1 g2 g3 g4 => ?_
  refine ⟨.ref s.heap.objs.size, _, I.laid (t' := tk) (o := setO X.prog X.w s.heap.objs.size ks) (fun b o z => g4 b o (Heap.lt_size z) z) (Nat.le_refl _) ?_, rfl, q ks _ g2 g3 (I.hok.fresh (Nat.le_refl _))⟩
  obtain ⟨es, ep, t, ho, T⟩ := g1
  exact ⟨⟨es, ep, t, ho, T⟩, ⟨_, ho⟩, fun k1 k2 ⟨es, ep, t, z1, z2⟩ z3 => ⟨es, ep, t, z3 _ z1, z2⟩⟩
theorem call_sorted_setI (hc : X.calm = true) : CallR X (.builtin "sorted") (fun xs H Q => ∃ (p : Addr) (ks : List Int), xs = [.ref p] ∧ H p = some (setO X.prog X.w p ks) ∧ ks.length < 64 ∧ ∀ (ns : List Int) (l : Addr), ns.Perm ks → ns.Pairwise (· ≤ ·) → H l = none → Q (.ref l) (upd H l (.lst (ns.map V.int)))) := by
  intro pins s σ H xs us Q I r h
  obtain ⟨p, ks, rfl, hp, hn, q⟩ := h
  obtain ⟨u, rfl, rx⟩ := vals1 r
  cases rx
  have hS : SetI X.prog X.w s.heap p (setLed X.w) ks := (I.hok p _ hp).1
  refine sorted_set (I.ok.hd hc) hS hn fun out ns l h' tk d a1 a2 a3 a4 a5 a6 => ?_
  obtain ⟨c, hc⟩ := a5
  have hz : (ns.map V.int).length ≤ sizeLine := by
    rw [List.length_map, a2.length_eq]
    exact Nat.le_of_lt (small1000 (by omega))
  have new : ObjOk X.prog X.w (upd H l (.lst (ns.map V.int))) h' l (.lst (ns.map V.int)) := ⟨hz, out.toList, c, vals_ints a1, by simpa using hc⟩
  exact ⟨.ref l, _, I.call' (s' := { s with heap := h', toks := tk, drawn := d }) (ch := []) rfl (Un.laid a6 a4 (I.hok.fresh a4)) (I.hok.laid a6 a4 new) I.bare (fun b hb => by cases hb), rfl, q ns l a2 a3 (I.hok.fresh a4)⟩
/-- rising, without doubles: what sorted makes of a set is the list itself just if the list rises -/
theorem rise_iff {cs ks ns : List Int} (nd : ks.Nodup) (mem : ∀ x, x ∈ ks ↔ x ∈ cs) (pm : ns.Perm ks) (so : ns.Pairwise (· ≤ ·)) : cs = ns ↔ cs.Pairwise (· < ·) := by
  have nn : ns.Nodup := pm.nodup_iff.mpr nd
  have ns_lt : ns.Pairwise (· < ·) := by
    refine List.Pairwise.imp₂ ?_ so nn
    intro a b h1 h2
    exact Int.lt_iff_le_and_ne.mpr ⟨h1, h2⟩
  refine ⟨fun e => e ▸ ns_lt, fun h => ?_⟩
  have cn : cs.Nodup := h.imp fun h => Int.ne_of_lt h
  have pm2 : cs.Perm ns := by
    refine (List.perm_ext_iff_of_nodup cn nn).mpr fun x => ?_
    rw [pm.mem_iff, mem]
  exact pm2.eq_of_pairwise (le := fun a b => a < b) (fun a b _ _ h1 h2 => absurd h1 (Int.lt_asymm h2)) h ns_lt
end
end LX
namespace LX
open PySem PySem.Spec PyProof.Rows L2
open Sem (wp)
section
variable {prog : Program} {w : World} {A : Around} {E : Value → Shared → Prop} {s : Shared}
/-- the first iterator hands one out, the second is at its end -/
theorem zip_end2 {z TI TO i1 i2 : Addr} {fp1 fp2 : List Addr} {n1 n2 k : Nat} {P1 P2 : Nat → Value → Prop} {St1 St2 : Nat → Heap → Prop} {a b : Value} {Q : Fin → Shared → Prop}
    (D1 : Draws prog w A i1 fp1 n1 P1 St1) (D2 : Draws prog w A i2 fp2 n2 P2 St2) (ap : Ap2 z TI TO i1 i2 fp1 fp2)
    (hz : IsZip s.heap z TI TO .none) (hTI : IsPair s.heap TI (.ref i1) (.ref i2)) (hTO : IsPair s.heap TO a b) (h1 : St1 k s.heap) (h2 : St2 n2 s.heap) (k1 : k < n1)
    (hE : ∀ h' tk e, (∀ c o, c ≠ z → c ≠ TO → c ≠ i1 → c ≠ i2 → s.heap.get? c = some o → h'.get? c = some o) → (∃ o, h'.get? e = some o ∧ o.cls = .type "StopIteration") → E (.ref e) { s with heap := h', toks := tk }) :
    wpAny (model prog w) A (Builtin.«zip.__next__» ⟨[.ref z], []⟩) Q E s := by
  show wpAny _ _ (field (.ref z) 2 >>= _) _ _ _
  refine wpAny_bind (wpAny_field hz rfl (x := .bool false) rfl ?_)
  show wpAny _ _ (field (.ref z) 3 >>= _) _ _ _
  refine wpAny_bind (wpAny_field hz rfl (x := .ref TI) rfl ?_)
  refine wpAny_bind (wpAny_seqItems hTI rfl ?_)
  show wpAny _ _ (Builtin.SmallTypes.ownedTupleIsFree (.ref z) >>= _) _ _ _
  refine wpAny_bind ?_
  unfold Builtin.SmallTypes.ownedTupleIsFree
  refine wpAny_bind (wpAny_field hz rfl (x := .none) rfl (wpAny_pure ?_))
  simp only [if_true]
  refine wpAny_bind (wpAny_rule ?_)
  refine wpAny_bind (wpAny_field hz rfl (x := .ref TO) rfl ?_)
  refine wpAny_bind (wpAny_setField_rec hz (by simp) fun g1 hz₁ sb1 => ?_)
  replace hz₁ : IsZip g1 z TI TO .ellipsis := hz₁
  refine wpAny_bind ?_
  simp only [List.zipIdx_cons, List.zipIdx_nil, List.forIn_cons, List.forIn_nil]
  refine wpAny_bind (wpAny_bind (wpAny_onRaise ?_))
  show wpAny _ _ (Builtin.SmallTypes.nextOf (.ref i1) >>= _) _ _ _
  have a1 : St1 k g1 := D1.frame _ _ _ h1 fun c hc o e => sb1.extBut c o (fun q => ap.z1 (q ▸ hc)) e
  refine wpAny_bind (D1.item k _ _ _ k1 a1 fun x g2 tk1 hx b1 sb2 => wpAny_pure ?_)
  replace sb2 : Heap.SameBut i1 g1 g2 := sb2
  have o2 : IsPair g2 TO a b := sb2.extBut _ _ ap.O1 (sb1.extBut _ _ ap.Oz hTO)
  refine wpAny_bind (wpAny_seqItems o2 rfl ?_)
  refine wpAny_bind (wpAny_updateSeq_pair o2 fun g3 o3 sb3 => ?_)
  replace o3 : IsPair g3 TO x b := o3
  replace sb3 : Heap.SameBut TO g2 g3 := sb3
  refine wpAny_bind (wpAny_letGo (wpAny_pure ?_))
  refine wpAny_bind (wpAny_bind (wpAny_onRaise ?_))
  show wpAny _ _ (Builtin.SmallTypes.nextOf (.ref i2) >>= _) _ _ _
  have a2 : St2 n2 g3 := D2.frame _ _ _ h2 fun c hc o e => sb3.extBut c o (fun q => ap.o2 (q ▸ hc)) (sb2.extBut c o (fun q => ap.i12 (q ▸ hc)) (sb1.extBut c o (fun q => ap.z2 (q ▸ hc)) e))
  have z3 : IsZip g3 z TI TO .ellipsis := sb3.extBut _ _ ap.Oz.symm (sb2.extBut _ _ ap.y1.symm hz₁)
  refine wpAny_bind (D2.done _ _ _ a2 fun g4 e sb4 he => ?_)
  obtain ⟨oe, hoe, hce⟩ := he
  have z4 : IsZip g4 z TI TO .ellipsis := sb4 _ _ ap.y2.symm z3
  have hez : e ≠ z := fun x => by subst x; rw [z4] at hoe; cases hoe; simp at hce
  refine wpAny_setField_rec z4 (by simp) fun g5 _ sb5 => hE g5 _ e (fun c o c1 c2 c3 c4 x => sb5.extBut _ _ c1 (sb4 _ _ c4 (sb3.extBut _ _ c2 (sb2.extBut _ _ c3 (sb1.extBut _ _ c1 x))))) ⟨oe, sb5.extBut _ _ hez hoe, hce⟩
theorem pyNext_zip_end2 {z TI TO i1 i2 : Addr} {fp1 fp2 : List Addr} {n1 n2 k : Nat} {P1 P2 : Nat → Value → Prop} {St1 St2 : Nat → Heap → Prop} {a b : Value} {Q : Option Value → Shared → Prop}
    (D1 : Draws prog w A.in1 i1 fp1 n1 P1 St1) (D2 : Draws prog w A.in1 i2 fp2 n2 P2 St2) (ap : Ap2 z TI TO i1 i2 fp1 fp2)
    (hz : IsZip s.heap z TI TO .none) (hTI : IsPair s.heap TI (.ref i1) (.ref i2)) (hTO : IsPair s.heap TO a b) (h1 : St1 k s.heap) (h2 : St2 n2 s.heap) (k1 : k < n1)
    (hQ : ∀ h' tk, (∀ c o, c ≠ z → c ≠ TO → c ≠ i1 → c ≠ i2 → s.heap.get? c = some o → h'.get? c = some o) → Q none { s with heap := h', toks := tk }) : wpAny (model prog w) A (pyNext (.ref z)) Q E s := by
  have hT : s.TypeIs (.ref z) "zip" := ⟨_, hz, rfl⟩
  unfold pyNext
  refine wpAny_bind (wpAny_attempt (wpAny_callSpecial?_slot (name := Str.ofString "__next__") hT F.slot_zip_next
    (wpAny_call_entry F.slot_zip_next hT F.entry_zip_next (zip_end2 D1 D2 ap hz hTI hTO h1 h2 k1 fun h' tk e hk he => ?_) (F.args_zip_next_1 _))))
  obtain ⟨o, ho, hc⟩ := he
  refine wpAny_bind (wpAny_isInstance (T := "StopIteration") (b := true) ⟨o, ho, hc⟩ isSubtype_stop ?_)
  exact wpAny_pure (hQ _ tk hk)
end
/-- zip of two that ends where the second ends -/
def Itz2e (S1 S2 : Src) : It := ⟨(Itz2 S1 S2).go, (Itz2 S1 S2).yld, fun i H => S1.go i H ∧ S2.stp i H⟩
theorem turn_zip2e {P : Program} {w : World} {K : PySem.W.Frag} {elts : List Expr} {x1 : Nat} {pos : Pos} {S1 S2 : Src} {z TI TO i1 i2 : Addr} {t1 t2 : Nat → Heap → Prop} (A1 : SrcAt S1 K i1 t1) (A2 : SrcAt S2 K i2 t2) (nd : [z, TI, TO, i1, i2].Nodup) :
    Turn P w K (.Tuple elts x1 pos) (Itz2e S1 S2) [z, TI, TO, i1, i2] z (fun i h => IsZip h z TI TO .none ∧ IsPair h TI (.ref i1) (.ref i2) ∧ (∃ a b, IsPair h TO a b) ∧ t1 i h ∧ t2 i h) where
  mem := (turn_zip2 (P := P) (w := w) (elts := elts) (x1 := x1) (pos := pos) A1 A2 nd).mem
  obj := (turn_zip2 (P := P) (w := w) (elts := elts) (x1 := x1) (pos := pos) A1 A2 nd).obj
  keep := (turn_zip2 (P := P) (w := w) (elts := elts) (x1 := x1) (pos := pos) A1 A2 nd).keep
  item := (turn_zip2 (P := P) (w := w) (elts := elts) (x1 := x1) (pos := pos) A1 A2 nd).item
  self := (turn_zip2 (P := P) (w := w) (elts := elts) (x1 := x1) (pos := pos) A1 A2 nd).self
  done := by
    intro X hP hw hK hc i pins s σ H E I hf st hg
    subst hP hw hK
    obtain ⟨hz, hTI, ⟨a, b, hTO⟩, h1, h2⟩ := st
    simp only [List.nodup_cons, List.mem_cons, List.not_mem_nil, or_false, not_or] at nd
    obtain ⟨⟨n1, n2, n3, n4⟩, ⟨n5, n6, n7⟩, ⟨n8, n9⟩, n10, _⟩ := nd
    have fz := hf z (by simp)
    have fO := hf TO (by simp)
    have f1 := hf i1 (by simp)
    have f2 := hf i2 (by simp)
    obtain ⟨fp1, m1, P1, Z1, D1, k1, s1, c1, u1, e1⟩ := A1.draw X rfl hc i pins s σ H I f1.1 (FpOk.nobase I f1) h1 hg.1
    obtain ⟨fp2, m2, P2, Z2, D2, s2, e2⟩ := A2.fin X rfl hc i pins s σ H I f2.1 (FpOk.nobase I f2) h2 hg.2
    have out : ∀ {b j : Addr} {fp : List Addr}, (∀ b ∈ fp, b = j ∨ H b ≠ none ∨ ∃ o, X.base.get? b = some o) → b ≠ j → FpOk X pins H b → b ∉ fp := fun {b j fp} e hne f hm => by
      rcases e b hm with q | q | ⟨o, q⟩
      · exact hne q
      · exact q f.1
      · rw [FpOk.nobase I f] at q; cases q
    have ap : Ap2 z TI TO i1 i2 fp1 fp2 := ⟨out e1 n3 fz, out e2 n4 fz, out e1 n8 fO, out e2 n9 fO, out e2 n10 f1, out e1 (Ne.symm n10) f2, Ne.symm n1, n5, n6, n7, Ne.symm n2, n8, n9, Ne.symm n3, Ne.symm n4⟩
    refine pyNext_zip_end2 D1 D2 ap hz hTI hTO s1 s2 k1 fun h' tk kp => ⟨rfl, ?_⟩
    exact Inv.turnedAll (ch := [z, TO, i1, i2]) I (fun b hb => hf b (by
        simp only [List.mem_cons, List.not_mem_nil, or_false] at hb ⊢
        rcases hb with q | q | q | q <;> simp [q])) (fun c o hc e => by
        simp only [List.mem_cons, List.not_mem_nil, or_false, not_or] at hc
        exact kp c o hc.1 hc.2.1 hc.2.2.1 hc.2.2.2 e)
section
variable {X : Cx} {elts : List Expr} {x1 : Nat} {tpos : Pos}
def iZip2e (K : PySem.W.Frag) (ta : TA) : TI := fun σ H R => ta σ H fun vs H1 => ∃ v1 v2 S1 S2, vs = [v1, v2] ∧ IsSrc K H1 v1 S1 ∧ IsSrc K H1 v2 S2 ∧ R (Itz2e S1 S2) H1
theorem pi_zip2e {a b : Expr} {ta : TA} {p pos : Pos} (hg : Gl X "zip") (hm : X.mg "zip" = none) (ha : PA X [a, b] ta) (hs : starEach [a, b] X.env = [(false, eval a X.env), (false, eval b X.env)] := by rfl) (hs2 : starEach [b] X.env = [(false, eval b X.env)] := by rfl) :
    PI X (.Tuple elts x1 tpos) (.Call (.Name "zip" p) [a, b] [] pos) (iZip2e X.K ta) := by
  intro pins s σ H R I h
  refine Call_ (ld_blt I hg hm PyProof.Rows.boot_zip (PyProof.Rows.callWith_type1 (thn (ha pos pins s σ H _ I h) fun us s1 ⟨vs, H1, I1, r1, q1⟩ => ?_) (by rw [hs, hs2]) (by rw [hs2]; rfl)))
  obtain ⟨v1, v2, S1, S2, rfl, g1, g2, q⟩ := q1
  obtain ⟨u1, u2, rfl, ru1, ru2⟩ := vals2 r1
  obtain ⟨o1, t1, m1, f1, A1, z1⟩ := g1.make I1 ru1
  obtain ⟨o2, t2, m2, f2, A2, z2⟩ := g2.make I1 ru2
  refine call_zip2 m1 m2 f1 f2 fun h' c1 c2 c3 c4 c5 kp => ?_
  refine wpAny_pyIter_zip c1 ?_
  generalize hn : s1.heap.objs.size = n at c1 c2 c3 c4 c5
  refine ⟨n + 4, [n + 4, n + 2, n + 3, n, n + 1], _, _, H1, rfl, I1.kept (t' := s1.toks) kp, turn_zip2e (A1 n) (A2 (n + 1)) (by simp), ⟨c1, c2, ⟨_, _, c3⟩, z1 _ _ c4, z2 _ _ c5⟩, fun b hb => ?_, q⟩
  have hle : s1.heap.objs.size ≤ b := by
    simp only [List.mem_cons, List.not_mem_nil, or_false] at hb
    rw [hn]
    rcases hb with rfl | rfl | rfl | rfl | rfl <;> omega
  exact I1.fpOk hle (I1.hok.fresh hle)
end
section
open SeqAt
variable {X : Cx}
/-- the same whole numbers at two places -/
def SameL (K : PySem.W.Frag) (H : Hp) (a b : Addr) : Prop := ∃ ns : List Int, SqL K H a (ns.map V.int) ∧ SqL K H b (ns.map V.int)
theorem ref_vals : ∀ {as : List Addr} {us : List Value}, Vals (as.map V.ref) us → us = as.map Value.ref
  | [], _, .nil => rfl
  | a :: as, _ :: _, .cons r t => by
    cases r
    rw [ref_vals t, List.map_cons]
theorem rows_items {A : Around} {pins : List (Addr × Obj)} {σ : L2.St} {H : Hp} {s : Shared} (I : Inv X pins σ H s) (hu : A.units < cLine) {as bs : List Addr} (h : ∀ (j : Nat) a b, as[j]? = some a → bs[j]? = some b → SameL X.K H a b) :
    ∀ j (h1 : j < (as.map Value.ref).toArray.size) (h2 : j < (bs.map Value.ref).toArray.size), EqAt A s (as.map Value.ref).toArray[j] (bs.map Value.ref).toArray[j] true := by
  intro j h1 h2
  simp only [List.size_toArray, List.length_map] at h1 h2
  obtain ⟨ns, ha, hb⟩ := h j as[j] bs[j] (List.getElem?_eq_getElem h1) (List.getElem?_eq_getElem h2)
  simp only [List.getElem_toArray, List.getElem_map]
  by_cases e : as[j] = bs[j]
  · rw [e]
    exact EqAt.same _
  · obtain ⟨us, r1, l1, z1⟩ := I.list ha
    obtain ⟨vs, r2, l2, z2⟩ := I.list hb
    have e1 := r1.length
    have e2 := r2.length
    refine EqAt.of_refs e ?_
    have := RcAt.lists (A := A) (s := s) (e := fun _ => true) l1.isList l2.isList (by simp; omega) hu (same_items r1 r2 (by simp [flatV]))
    have e3 : (List.range us.toArray.size).all (fun _ => true) = true := by simp
    rw [e3] at this
    exact this
theorem op_eqLL (hu : X.A.units + 1 < cLine) : OpR X (compareOp .Eq) (fun x y H Q => ∃ (p q : Addr) (as bs : List Addr), x = .ref p ∧ y = .ref q ∧ SqL X.K H p (as.map V.ref) ∧ SqL X.K H q (bs.map V.ref) ∧ as.length = bs.length ∧ (∀ (j : Nat) a b, as[j]? = some a → bs[j]? = some b → SameL X.K H a b) ∧ Q (.bl true) H) := by
  intro pins s σ H x y v u Q I rx ry h
  obtain ⟨p, q, as, bs, rfl, rfl, hp, hq, hl, hs, k⟩ := h
  cases rx
  cases ry
  obtain ⟨us, r1, l1, z1⟩ := I.list hp
  obtain ⟨vs, r2, l2, z2⟩ := I.list hq
  cases ref_vals r1
  cases ref_vals r2
  refine eq_listAt (e := fun _ => true) l1.isList l2.isList (by simp; omega) (by omega) (rows_items (A := X.A.in1) I hu hs) ⟨.bl _, H, I, rfl, ?_⟩
  have e : (List.range ((as.map Value.ref).toArray.size)).all (fun _ => true) = true := by simp
  rw [e]
  exact k
theorem op_neLL (hu : X.A.units + 1 < cLine) : OpR X (compareOp .NotEq) (fun x y H Q => ∃ (p q : Addr) (as bs : List Addr), x = .ref p ∧ y = .ref q ∧ SqL X.K H p (as.map V.ref) ∧ SqL X.K H q (bs.map V.ref) ∧ as.length = bs.length ∧ (∀ (j : Nat) a b, as[j]? = some a → bs[j]? = some b → SameL X.K H a b) ∧ Q (.bl false) H) := by
  intro pins s σ H x y v u Q I rx ry h
  obtain ⟨p, q, as, bs, rfl, rfl, hp, hq, hl, hs, k⟩ := h
  cases rx
  cases ry
  obtain ⟨us, r1, l1, z1⟩ := I.list hp
  obtain ⟨vs, r2, l2, z2⟩ := I.list hq
  cases ref_vals r1
  cases ref_vals r2
  have := RcNeAt.lists (A := X.A) (s := s) (e := fun _ => true) l1.isList l2.isList (by simp; omega) (by omega) (rows_items (A := X.A.in1) I hu hs)
  refine this _ _ _ _ ⟨.bl _, H, I, rfl, ?_⟩
  have e : (!(List.range ((as.map Value.ref).toArray.size)).all (fun _ => true)) = false := by simp
  rw [e]
  exact k
end
end LX
namespace LX
open PySem PySem.Spec PyProof.Rows L2 TM
def okC (n : Int) : Int → List Int → Prop
  | _, [] => True
  | a, c :: cs => a < c ∧ c < n ∧ okC n c cs
theorem okC_iff {n : Int} : ∀ (cs : List Int) (a : Int), okC n a cs ↔ cs.Pairwise (· < ·) ∧ ∀ c ∈ cs, a < c ∧ c < n
  | [], a => by simp [okC]
  | c :: cs, a => by
    unfold okC
    rw [okC_iff cs c, List.pairwise_cons]
    constructor
    · rintro ⟨h1, h2, h3, h4⟩
      refine ⟨⟨fun x hx => (h4 x hx).1, h3⟩, fun x hx => ?_⟩
      rcases List.mem_cons.mp hx with rfl | hx
      · exact ⟨h1, h2⟩
      · exact ⟨Int.lt_trans h1 (h4 x hx).1, (h4 x hx).2⟩
    · rintro ⟨⟨h1, h2⟩, h3⟩
      obtain ⟨g1, g2⟩ := h3 c (by simp)
      exact ⟨g1, g2, h2, fun x hx => ⟨h1 x hx, (h3 x (by simp [hx])).2⟩⟩
theorem okC_nat {n : Int} {cs : List Int} (h : okC n 0 cs) : ∃ ds : List Nat, cs = toI ds := by
  obtain ⟨_, h⟩ := (okC_iff cs 0).mp h
  refine ⟨cs.map Int.toNat, ?_⟩
  show cs = (cs.map Int.toNat).map fun n : Nat => (n : Int)
  rw [List.map_map]
  conv => lhs; rw [← List.map_id cs]
  refine List.map_congr_left fun x hx => ?_
  have := (h x hx).1
  show x = ((x.toNat : Nat) : Int)
  omega
def lineOf (row : List Int) (f b : Nat) : List Nat := ord (lvl row) 9 0 ((List.range (b - f)).map (f + ·))
def linesF (row : List Int) (a : Nat) (ds : List Nat) : List (List Nat) := List.zipWith (lineOf row) (a :: ds) (ds ++ [row.length])
def linesOf (row : List Int) (ds : List Nat) : List (List Nat) := linesF row 0 ds
theorem linesOf_len (row : List Int) (ds : List Nat) : (linesOf row ds).length = ds.length + 1 := by simp [linesOf, linesF]
theorem linesOf_at {row : List Int} {ds : List Nat} {i f b : Nat} (h1 : (0 :: ds)[i]? = some f) (h2 : (ds ++ [row.length])[i]? = some b) : (linesOf row ds)[i]? = some (lineOf row f b) := by
  unfold linesOf linesF
  rw [List.getElem?_zipWith, h1, h2]
theorem okC_at {n : Nat} : ∀ {ds : List Nat} {a i f b : Nat}, okC n a (toI ds) → a ≤ n → (a :: ds)[i]? = some f → (ds ++ [n])[i]? = some b → f ≤ b ∧ b ≤ n
  | [], a, i, f, b, _, ha, h1, h2 => by
    cases i with
    | zero => cases h1; cases h2; exact ⟨ha, Nat.le_refl _⟩
    | succ i => simp at h1
  | d :: ds, a, i, f, b, ⟨g1, g2, g3⟩, ha, h1, h2 => by
    replace g1 : (a : Int) < (d : Int) := g1
    replace g2 : (d : Int) < (n : Int) := g2
    cases i with
    | zero => cases h1; cases h2; omega
    | succ i => exact okC_at (ds := ds) (a := d) (i := i) g3 (by omega) h1 h2
theorem line_len (row : List Int) (f b : Nat) : (lineOf row f b).length = b - f := by
  unfold lineOf
  rw [(ord_perm 9 0 _).length_eq, List.length_map, List.length_range]
theorem lines_perm {row : List Int} : ∀ {ds : List Nat} {a : Nat}, okC row.length a (toI ds) → a ≤ row.length → (linesF row a ds).flatten.Perm ((List.range (row.length - a)).map (a + ·))
  | [], a, _, ha => by
    show (lineOf row a row.length ++ []).Perm _
    rw [List.append_nil]
    exact ord_perm 9 0 _
  | d :: ds, a, ⟨g1, g2, g3⟩, ha => by
    replace g1 : (a : Int) < (d : Int) := g1
    replace g2 : (d : Int) < (row.length : Int) := g2
    have ih := lines_perm (row := row) (ds := ds) (a := d) g3 (by omega)
    show (lineOf row a d ++ (linesF row d ds).flatten).Perm _
    refine (List.Perm.append (ord_perm 9 0 _) ih).trans (.of_eq ?_)
    have e : row.length - a = (d - a) + (row.length - d) := by omega
    rw [e, List.range_add, List.map_append, List.map_map]
    refine congrArg _ (List.map_congr_left fun x _ => ?_)
    show d + x = a + (d - a + x)
    omega
theorem lines_all {row : List Int} {ds : List Nat} (h : okC row.length 0 (toI ds)) : (linesOf row ds).flatten.Perm (List.range row.length) := by
  have := lines_perm (row := row) (ds := ds) (a := 0) h (Nat.zero_le _)
  have e : (List.range (row.length - 0)).map (0 + ·) = List.range row.length := by simp
  rw [e] at this
  exact this
def cutR (row : List Int) (f b : Nat) : List Int := (row.drop f).take (b - f)
theorem cutR_len {row : List Int} {f b : Nat} (h : b ≤ row.length) : (cutR row f b).length = b - f := by
  unfold cutR
  rw [List.length_take, List.length_drop]
  omega
theorem cutR_ok {row : List Int} (h : RowOk row) (f b : Nat) : RowOk (cutR row f b) := by
  have mem : ∀ x ∈ cutR row f b, x ∈ row := fun x hx => List.mem_of_mem_drop (List.mem_of_mem_take hx)
  refine ⟨?_, fun x hx => h.lo x (mem x hx), fun x hx => h.hi x (mem x hx)⟩
  unfold cutR
  rw [List.length_take, List.length_drop]
  have := h.len
  omega
theorem cut_line {row : List Int} {f b : Nat} (h1 : f ≤ b) (h2 : b ≤ row.length) : (theOrd (cutR row f b)).map (f + ·) = lineOf row f b := by
  unfold theOrd lineOf
  rw [cutR_len h2, ord_map]
  refine congrArg _ (ord_lv 9 0 _ fun p hp => ?_)
  have hp := List.mem_range.mp hp
  unfold lvl cutR
  rw [List.getD_eq_getElem?_getD, List.getD_eq_getElem?_getD, List.getElem?_take, if_pos hp, List.getElem?_drop]
theorem cut_row (row : List Int) {i j : Nat} (h : i ≤ j) (h' : j ≤ row.length) : cutV (vI row) (some (i : Int)) (some (j : Int)) = vI (cutR row i j) := by
  unfold cutV cutR
  rw [HT.sIx_nat, HT.sIx_nat, ints_len]
  show ((row.map _).drop _).take _ = _
  rw [← List.map_drop, ← List.map_take, Nat.min_eq_left h', Nat.min_eq_left (Nat.le_trans h h')]
def spCheck (K : PySem.W.Frag) : Sp := fun vs H Q _ => ∃ (c : Addr) (cs : List Int) (n : Int), vs = [.int n, .ref c] ∧ SqL K H c (vI cs) ∧ okC n 0 cs ∧ Q .non H
def spNoCheck (K : PySem.W.Frag) (C : Addr) : Sp := fun vs H _ E => ∃ (c : Addr) (cs : List Int) (n : Int), vs = [.int n, .ref c] ∧ SqL K H c (vI cs) ∧ ¬ okC n 0 cs ∧ E (.ref C) none H
def spLines (K : PySem.W.Frag) : Sp := fun vs H Q _ => ∃ (a c : Addr) (row : List Int) (ds : List Nat), vs = [.ref a, .ref c] ∧ SqL K H a (vI row) ∧ RowOk row ∧ H c = some (.lst (vN ds)) ∧ okC row.length 0 (toI ds) ∧ ds.length ≤ 60 ∧
  ∀ (p : Addr) (as : List Addr) (H' : Hp), Same H H' → H p = none → H' p = some (.lst (as.map V.ref)) → ListsAt H' as (linesOf row ds) → as.Nodup → (∀ a ∈ as, H a = none ∧ a ≠ p) → Q (.ref p) H'
def spNoLines (K : PySem.W.Frag) (C : Addr) : Sp := fun vs H _ E => ∃ (a c : Addr) (row cs : List Int), vs = [.ref a, .ref c] ∧ SqL K H a (vI row) ∧ SqL K H c (vI cs) ∧ ¬ okC row.length 0 cs ∧ E (.ref C) none H
def spRefusedC (K : PySem.W.Frag) : Sp := fun vs H Q _ => ∃ (a c : Addr) (row cs : List Int), vs = [.ref a, .ref c] ∧ SqL K H a (vI row) ∧ SqL K H c (vI cs) ∧ ¬ okC row.length 0 cs ∧ ∀ H', Same H H' → Q (.bl true) H'
def spCuts : Sp := fun vs H Q _ => ∃ cell n : Int, vs = [.int cell, .int n] ∧ 0 ≤ n ∧ n ≤ 60 ∧ ∀ (cs : List Int) (p : Addr) (H' : Hp), Same H H' → H p = none → H' p = some (.lst (vI cs)) → cs.length ≤ 30 → Q (.ref p) H'
theorem ListsAt.len {H : Hp} {as : List Addr} {gs : List (List Nat)} (h : ListsAt H as gs) : as.length = gs.length := Paired.length h
theorem ListsAt.atg {H : Hp} {as : List Addr} {gs : List (List Nat)} (h : ListsAt H as gs) : ∀ {i : Nat} {g : List Nat}, gs[i]? = some g → ∃ a, as[i]? = some a ∧ H a = some (.lst (vN g)) := by
  induction h with
  | nil => intro i a e; simp at e
  | cons r t ih =>
    intro i a e
    cases i with
    | zero => cases e; exact ⟨_, rfl, r⟩
    | succ i => exact ih e
theorem ListsAt.there {H : Hp} {as : List Addr} {gs : List (List Nat)} (h : ListsAt H as gs) : ∀ a ∈ as, ∃ g, g ∈ gs ∧ H a = some (.lst (vN g)) := by
  intro a ha
  obtain ⟨i, hi⟩ := List.getElem?_of_mem ha
  obtain ⟨g, e1, e⟩ := h.at hi
  exact ⟨g, List.mem_of_getElem? e1, e⟩
theorem cut_some (cs : List Int) (lo hi : Option Int) : ∃ es : List Int, cutV (vI cs) lo hi = vI es ∧ es.length ≤ cs.length := by
  refine ⟨(cs.drop (HT.sIx (vI cs).length 0 lo)).take (HT.sIx (vI cs).length (vI cs).length hi - HT.sIx (vI cs).length 0 lo), ?_, ?_⟩
  · unfold cutV
    show ((cs.map _).drop _).take _ = _
    rw [← List.map_drop, ← List.map_take]
  · rw [List.length_take, List.length_drop]
    omega
theorem nodup_len : ∀ {ks cs : List Int}, ks.Nodup → (∀ x ∈ ks, x ∈ cs) → ks.length ≤ cs.length
  | [], _, _, _ => Nat.zero_le _
  | k :: ks, cs, nd, h => by
    rw [List.nodup_cons] at nd
    have hk := h k (by simp)
    have ih := nodup_len (ks := ks) (cs := cs.erase k) nd.2 fun x hx => (List.mem_erase_of_ne (show x ≠ k from fun e => nd.1 (e ▸ hx))).mpr (h x (by simp [hx]))
    rw [List.length_erase_of_mem hk] at ih
    have := List.length_pos_of_mem hk
    rw [List.length_cons]
    omega
def inB (n : Nat) (c : Int) : Bool := decide (0 < c) && decide (c < (n : Int))
theorem okC_all {n : Nat} {cs : List Int} : okC n 0 cs ↔ cs.Pairwise (· < ·) ∧ (cs.map (inB n)).all id = true := by
  rw [okC_iff]
  refine and_congr_right fun _ => ?_
  rw [List.all_map, List.all_eq_true]
  refine forall_congr' fun c => forall_congr' fun _ => ?_
  show _ ↔ inB n c = true
  unfold inB
  rw [Bool.and_eq_true, decide_eq_true_eq, decide_eq_true_eq]
theorem cut_tail (x : V) (xs : List V) : cutV (x :: xs) (some 1) none = xs := by
  have e : HT.sIx (x :: xs).length 0 (some 1) = 1 := by
    have := HT.sIx_nat (x :: xs).length 0 1
    rw [List.length_cons] at this ⊢
    exact this.trans (by omega)
  unfold cutV
  rw [e, HT.sIx_none]
  show xs.take _ = xs
  rw [List.length_cons, Nat.add_sub_cancel, List.take_length]
theorem line_zero (row : List Int) (b : Nat) : lineOf row 0 b = ord (lvl row) 9 0 (List.range b) := by
  unfold lineOf
  simp
theorem line_in {row : List Int} {f b : Nat} (h : b ≤ row.length) : ∀ p ∈ (List.range (b - f)).map (f + ·), p < row.length := by
  intro p hp
  obtain ⟨j, hj, rfl⟩ := List.mem_map.mp hp
  have := List.mem_range.mp hj
  omega
theorem flat_take {gs : List (List Nat)} {i : Nat} {g : List Nat} (h : gs[i]? = some g) : (gs.take i).flatten ++ g = (gs.take (i + 1)).flatten := by
  have hi : i < gs.length := (List.getElem?_eq_some_iff.mp h).1
  have e2 := List.getElem?_eq_getElem hi
  rw [h] at e2
  rw [List.take_succ_eq_append_getElem hi, ← Option.some.inj e2, List.flatten_append, List.flatten_singleton]
theorem flat_le {gs : List (List Nat)} (i : Nat) : (gs.take i).flatten.length ≤ gs.flatten.length := by
  have := congrArg List.length (congrArg List.flatten (List.take_append_drop i gs))
  rw [List.flatten_append, List.length_append] at this
  omega
end LX
namespace TS
open PySem L2 LX
def top (i : Nat) : Stmt := PySem.Challenge.pw_turnscript_k10_lines.main.body.getD i (.Pass ⟨0, 0, 0, 0⟩)
abbrev s_longest_rows : Stmt := top 5
abbrev s_turned_about : Stmt := top 6
abbrev s_order : Stmt := top 7
abbrev s_check_cuts : Stmt := top 9
abbrev s_lines : Stmt := top 10
abbrev s__law_cell_at : Stmt := top 12
abbrev s__law_pick : Stmt := top 13
abbrev s__law_whole : Stmt := top 14
abbrev s__law_mix : Stmt := top 15
abbrev s__law_size : Stmt := top 16
abbrev s__law_list : Stmt := top 17
abbrev s__law_row : Stmt := top 18
abbrev s__law_order : Stmt := top 19
abbrev s__law_refused : Stmt := top 20
abbrev s__law_cuts : Stmt := top 21
abbrev s_law : Stmt := top 22
section
variable {P : Program} {w : World} {K : PySem.W.Frag} {mg : Str → Option Value} {base : Heap}
theorem sc_longest_rows : FnScope ["places", "told", "place"] ["places"] (defScope s_longest_rows) := ⟨rfl, rfl, rfl, by decide +kernel, rfl, by decide +kernel, by decide +kernel⟩
theorem ok_longest_rows {f : Addr} {fd : FuncData} (F : Fun K "longest_rows" "longest_rows" s_longest_rows f fd) : FnOk P w K mg base CX0 1 f fd ["places"] (spRows K) := by
  refine F.ok sc_longest_rows (fun vs H Q E h => ?_) (fun cdv A outer s H vs Q E hr h => ?_)
  · obtain ⟨a, ps, rfl, _⟩ := h
    rfl
  · obtain ⟨a, ps, rfl, hS, hlen, k⟩ := h
    refine ⟨_, pss_cons (ps_set (i := 1) sc_longest_rows.nd rfl (Or.inl rfl) (pe_lst pa_nil))
      (pss_cons (ps_for PassesOwn.never rfl (pi_list (pv 0)) (pg_name (i := 2) sc_longest_rows.nd rfl (Or.inl rfl))
        (pss_one (ps_if (pw_and (pt_truth (pv 1) (fun _ => rfl)) (pw_and1 (pt_cmpR op_eq (pe_ix ix_tup (pe_ix ix_list (pv 1) (pe_un un_neg pe_int) (fun _ _ => rfl)) pe_int (fun _ _ => rfl)) (pv 2) (nomark _)))).pt
          (pss_one (ps_asg (pe_tup (pa_cons (pe_ix ix_tup (pe_ix ix_list (pv 1) (pe_un un_neg pe_int) (fun _ _ => rfl)) pe_int (fun _ _ => rfl)) (pa_cons (pe_op op_add (pv 2) pe_int) pa_nil))) (pg_sub (pv 1) (pe_un un_neg pe_int) set_list)))
          (pss_one (ps_expr (pe_bm PySem.F.plainAttrs_list PySem.F.slot_list_append PySem.F.type_list_append mt_append (pv 1) (pa_cons (pe_tup (pa_cons (pv 2) (pa_cons (pe_op op_add (pv 2) pe_int) pa_nil))) pa_nil)))))))
      (pss_one (ps_ret (pv 1)))), ?_⟩
    refine ⟨Nat.zero_le _, fun tA htA => ?_⟩
    refine ⟨_, rfl, a, rfl, ⟨_, (Same.upd0 htA).seq hS⟩, ?_⟩
    refine for_list (K := K) (xs := vN ps) (fun i σ H2 => ∃ (v2 : Option V) (as : List Addr), σ = [some (.ref a), some (.ref tA), v2] ∧ Same H H2 ∧ H2 tA = some (.lst (as.map V.ref)) ∧ TupsAt H2 as (toF (lrows (ps.take i))))
      ⟨_, [], rfl, Same.upd0 htA, upd_same, .nil⟩ ?_ ?_ ?_
    · rintro i σ H2 _ ⟨v2, as, rfl, s2, hT, hA⟩
      exact s2.seq hS
    · rintro i x σ H2 hx ⟨v2, as, rfl, s2, hT, hA⟩
      obtain ⟨m, hm, rfl⟩ := vN_get hx
      have hi : i < ps.length := (List.getElem?_eq_some_iff.mp hm).1
      have hal : as.length ≤ 60 := by
        have e1 := hA.len
        rw [toF_len] at e1
        have e2 := lrows_le (ps.take i)
        rw [List.length_take] at e2
        omega
      have er : lrows (ps.take (i + 1)) = lstep (lrows (ps.take i)) m := by rw [take_snoc hm, lrows_snoc]
      rw [er]
      generalize lrows (ps.take i) = L at hA ⊢
      -- a new tuple is told behind the others
      have new : ∀ H3, Same H H3 → H3 tA = some (.lst (as.map V.ref)) → TupsAt H3 as (toF L) → ∀ tp, H3 tp = none → ∃ (v2 : Option V) (as' : List Addr), [some (V.ref a), some (V.ref tA), some (V.int (m : Int))] = [some (.ref a), some (.ref tA), v2] ∧ Same H (upd (upd H3 tp (.tup [.int (m : Int), .int ((m : Int) + 1)])) tA (.lst (as.map V.ref ++ [.ref tp]))) ∧
          (upd (upd H3 tp (.tup [.int (m : Int), .int ((m : Int) + 1)])) tA (.lst (as.map V.ref ++ [.ref tp]))) tA = some (.lst (as'.map V.ref)) ∧ TupsAt (upd (upd H3 tp (.tup [.int (m : Int), .int ((m : Int) + 1)])) tA (.lst (as.map V.ref ++ [.ref tp]))) as' (toF (L ++ [(m, m + 1)])) := by
        intro H3 s3 hT3 hA3 tp htp
        refine ⟨_, as ++ [tp], rfl, Same.updT (Same.upd s3 htp) htA, by rw [upd_same, List.map_append]; rfl, ?_⟩
        have a4 : TupsAt (upd H3 tp (.tup [.int (m : Int), .int ((m : Int) + 1)])) as (toF L) := hA3.same (Same.upd0 htp)
        have t4 : upd H3 tp (.tup [.int (m : Int), .int ((m : Int) + 1)]) tA = some (.lst (as.map V.ref)) := (upd_ne (ne_of_none hT3 htp)).trans hT3
        rw [toF_snoc]
        refine (a4.off t4).snoc ?_
        rw [upd_ne (fun e => by rw [e, hT3] at htp; cases htp), upd_same]
        rfl
      dsimp only [gName]
      have hsm : (as.map V.ref).length < sizeLine := small1000 (by rw [List.length_map]; omega)
      rcases List.eq_nil_or_concat L with rfl | ⟨L', y, rfl⟩
      · have e0 : as = [] := List.eq_nil_of_length_eq_zero (by rw [hA.len]; rfl)
        subst e0
        refine ⟨_, rfl, false, .inl ⟨_, SqL.of hT, rfl⟩, ?_⟩
        refine iteF (iteF ?_)
        refine ⟨_, rfl, .inl ⟨rfl, _, SqL.of hT⟩, _, rfl, _, rfl, _, _, rfl, rfl, (by show 2 ≤ sizeLine; decide), fun tp htp => ?_⟩
        refine ⟨tA, _, _, rfl, rfl, (upd_ne (ne_of_none hT htp)).trans hT, hsm, ?_⟩
        have : lstep [] m = [] ++ [(m, m + 1)] := rfl
        rw [this]
        exact new H2 s2 hT hA tp htp
      · rw [List.concat_eq_append] at hA new ⊢
        rw [toF_snoc] at hA
        obtain ⟨as', t0, rfl, hA', ht0⟩ := hA.split
        have elast : atI ((as' ++ [t0]).map V.ref) (-1) = some (V.ref t0) := by rw [List.map_append]; exact atI_last _ _
        refine ⟨_, rfl, true, .inl ⟨_, SqL.of hT, by rw [List.map_append]; simp⟩, ?_⟩
        refine iteT ?_
        refine ⟨_, rfl, _, rfl, tA, _, _, _, rfl, rfl, SqL.of hT, elast, t0, _, _, _, rfl, rfl, SqT.of ht0, rfl, _, rfl, rfl, _, rfl, ?_⟩
        by_cases hy : y.2 = m
        · have e1 : decide (faceV (some (y.2 : Int)) = V.int (m : Int)) = true := decide_eq_true (by rw [hy]; rfl)
          rw [e1]
          refine iteT ?_
          refine ⟨_, rfl, _, rfl, tA, _, _, _, rfl, rfl, SqL.of hT, elast, t0, _, _, _, rfl, rfl, SqT.of ht0, rfl, _, rfl, _, _, rfl, rfl, (by show 2 ≤ sizeLine; decide), fun tp htp => ?_⟩
          have tT : upd H2 tp (.tup [faceV (some (y.1 : Int)), .int ((m : Int) + 1)]) tA = some (.lst ((as' ++ [t0]).map V.ref)) := (upd_ne (ne_of_none hT htp)).trans hT
          refine ⟨_, rfl, _, rfl, tA, _, _, as'.length, rfl, rfl, tT, by rw [List.length_map, List.length_append]; exact ix_last _, ?_⟩
          have es : (((as' ++ [t0]).map V.ref).set as'.length (V.ref tp)) = (as' ++ [tp]).map V.ref := by
            rw [List.map_append, List.map_append]
            have := set_last (as'.map V.ref) (V.ref t0) (V.ref tp)
            rw [List.length_map] at this
            exact this
          rw [es]
          refine ⟨_, as' ++ [tp], rfl, Same.updT (Same.upd s2 htp) htA, upd_same, ?_⟩
          have el : lstep (L' ++ [y]) m = L' ++ [(y.1, m + 1)] := by
            obtain ⟨y1, y2⟩ := y
            have : y2 = m := hy
            subst this
            exact lstep_on L' y1 y2
          rw [el, toF_snoc]
          have a4 : TupsAt (upd H2 tp (.tup [faceV (some (y.1 : Int)), .int ((m : Int) + 1)])) as' (toF L') := hA'.same (Same.upd0 htp)
          refine (a4.off tT).snoc ?_
          rw [upd_ne (fun e => by rw [e, hT] at htp; cases htp), upd_same]
          rfl
        · have e1 : decide (faceV (some (y.2 : Int)) = V.int (m : Int)) = false := decide_eq_false (fun e => hy (by
            have : V.int (y.2 : Int) = V.int (m : Int) := e
            injection this with this
            omega))
          rw [e1]
          refine iteF ?_
          refine ⟨_, rfl, .inl ⟨rfl, _, SqL.of hT⟩, _, rfl, _, rfl, _, _, rfl, rfl, (by show 2 ≤ sizeLine; decide), fun tp htp => ?_⟩
          refine ⟨tA, _, _, rfl, rfl, (upd_ne (ne_of_none hT htp)).trans hT, hsm, ?_⟩
          have el : lstep (L' ++ [y]) m = (L' ++ [y]) ++ [(m, m + 1)] := by
            unfold lstep
            rw [List.getLast?_concat]
            simp only
            rw [if_neg hy]
          rw [el]
          exact new H2 s2 hT (by rw [toF_snoc]; exact hA) tp htp
    · rintro σ H2 ⟨v2, as, rfl, s2, hT, hA⟩
      rw [vN_len, List.take_length] at hA
      exact ⟨_, rfl, k tA as H2 s2 htA hT hA⟩
theorem sc_turned_about : FnScope ["row", "first", "behind"] ["row", "first", "behind"] (defScope s_turned_about) := ⟨rfl, rfl, rfl, by decide +kernel, rfl, by decide +kernel, by decide +kernel⟩
theorem ok_turned_about {f : Addr} {fd : FuncData} (F : Fun K "turned_about" "turned_about" s_turned_about f fd) (T : Blt mg) : FnOk P w K mg base CX0 1 f fd ["row", "first", "behind"] (spTurn K) := by
  refine F.ok sc_turned_about (fun vs H Q E h => ?_) (fun cdv A outer s H vs Q E hr h => ?_)
  · obtain ⟨a, R, x, rfl, _⟩ := h
    rfl
  · obtain ⟨a, R, x, rfl, hS, h1, h2, hlen, k⟩ := h
    refine ⟨_, pss_one (ps_ret (pe_op op_cat (pe_op op_cat (pe_slice sl_list (pv 0) po_none (po_some (pv 1))) (pe_list_rev (pe_slice sl_list (pv 0) (po_some (pv 1)) (po_some (pv 2))) (by rfl) T.list (by rfl) T.reversed rfl)) (pe_slice sl_list (pv 0) (po_some (pv 2)) po_none))), ?_⟩
    refine ⟨_, rfl, _, rfl, _, rfl, a, _, rfl, hS, fun p1 n1 => ?_⟩
    rw [cut_to R (Nat.le_trans h1 h2)]
    have s1 := Same.upd0 (o := .lst (vN (R.take x.1))) n1
    have e1 : upd H p1 (.lst (vN (R.take x.1))) p1 = some (.lst (vN (R.take x.1))) := upd_same
    generalize upd H p1 (.lst (vN (R.take x.1))) = H1 at s1 e1 ⊢
    refine ⟨_, rfl, _, rfl, _, rfl, _, rfl, _, rfl, a, _, rfl, s1.seq hS, fun p2 n2 => ?_⟩
    rw [cut_mid R h1 h2]
    have s2 := Same.upd (o := .lst (vN ((R.drop x.1).take (x.2 - x.1)))) s1 n2
    have e2 := Same.upd0 (o := .lst (vN ((R.drop x.1).take (x.2 - x.1)))) n2 _ _ e1
    have f2 : upd H1 p2 (.lst (vN ((R.drop x.1).take (x.2 - x.1)))) p2 = some (.lst (vN ((R.drop x.1).take (x.2 - x.1)))) := upd_same
    generalize upd H1 p2 (.lst (vN ((R.drop x.1).take (x.2 - x.1)))) = H2 at s2 e2 f2 ⊢
    refine ⟨p2, _, rfl, SqL.of f2, fun p3 n3 => ?_⟩
    rw [vN_rev]
    have s3 := Same.upd (o := .lst (vN ((R.drop x.1).take (x.2 - x.1)).reverse)) s2 n3
    have e3 := Same.upd0 (o := .lst (vN ((R.drop x.1).take (x.2 - x.1)).reverse)) n3 _ _ e2
    have f3 : upd H2 p3 (.lst (vN ((R.drop x.1).take (x.2 - x.1)).reverse)) p3 = some (.lst (vN ((R.drop x.1).take (x.2 - x.1)).reverse)) := upd_same
    generalize upd H2 p3 (.lst (vN ((R.drop x.1).take (x.2 - x.1)).reverse)) = H3 at s3 e3 f3 ⊢
    refine ⟨p1, p3, _, _, rfl, rfl, e3, f3, le_line (by simp only [vN_len, List.length_take, List.length_reverse, List.length_drop]; omega), fun p4 n4 => ?_⟩
    rw [vN_app]
    have s4 := Same.upd (o := .lst (vN (R.take x.1 ++ ((R.drop x.1).take (x.2 - x.1)).reverse))) s3 n4
    have f4 : upd H3 p4 (.lst (vN (R.take x.1 ++ ((R.drop x.1).take (x.2 - x.1)).reverse))) p4 = some (.lst (vN (R.take x.1 ++ ((R.drop x.1).take (x.2 - x.1)).reverse))) := upd_same
    generalize upd H3 p4 (.lst (vN (R.take x.1 ++ ((R.drop x.1).take (x.2 - x.1)).reverse))) = H4 at s4 f4 ⊢
    refine ⟨_, rfl, _, rfl, _, rfl, a, _, rfl, s4.seq hS, fun p5 n5 => ?_⟩
    rw [cut_from R h2]
    have s5 := Same.upd (o := .lst (vN (R.drop x.2))) s4 n5
    have f5 := Same.upd0 (o := .lst (vN (R.drop x.2))) n5 _ _ f4
    have g5 : upd H4 p5 (.lst (vN (R.drop x.2))) p5 = some (.lst (vN (R.drop x.2))) := upd_same
    generalize upd H4 p5 (.lst (vN (R.drop x.2))) = H5 at s5 f5 g5 ⊢
    refine ⟨p4, p5, _, _, rfl, rfl, f5, g5, le_line (by simp only [vN_len, List.length_append, List.length_take, List.length_reverse, List.length_drop]; omega), fun p6 n6 => ?_⟩
    rw [vN_app]
    exact k p6 _ (Same.upd s5 n6) (s5.free n6) upd_same
def scx_order : Scope := match s_order with
  | .FunctionDef _ _ (_ :: .For _ _ (.Assign _ (.ListComp _ _ sc _) _ :: _) _ _ :: _) _ _ _ _ _ _ _ => sc
  | _ => { kind := .function, names := [], isGenerator := false, isCoroutine := false }
theorem sc_order : FnScope ["levels", "told", "least", "high", "first", "behind"] ["levels"] (defScope s_order) := ⟨rfl, rfl, rfl, by decide +kernel, rfl, by decide +kernel, by decide +kernel⟩
theorem scc_order : CompSc (defScope s_order) ["levels", "told", "least", "high", "first", "behind"] ["place", "level"] ["least"] [2] scx_order :=
  ⟨by decide +kernel, by decide +kernel, by decide +kernel, by decide +kernel, by decide +kernel, by decide +kernel, by decide +kernel⟩
theorem ndc_order : (["place", "level", "least"] : List Str).Nodup := by decide +kernel
theorem ok_order {f : Addr} {fd : FuncData} (F : Fun K "order" "order" s_order f fd) (T : Blt mg) (T2 : BltB mg) (D1 : Def P w K mg base "longest_rows" 1 ["places"] (spRows K)) (D2 : Def P w K mg base "turned_about" 1 ["row", "first", "behind"] (spTurn K)) :
    FnOk P w K mg base CX0 3 f fd ["levels"] (spOrder K) := by
  refine F.ok sc_order (fun vs H Q E h => ?_) (fun cdv A outer s H vs Q E hr h => ?_)
  · obtain ⟨a, row, rfl, _⟩ := h
    rfl
  · obtain ⟨a, row, rfl, hS, hR, k⟩ := h
    have hlen := hR.len
    have hr1 : Room 1 _ := hr.mono (by decide)
    refine ⟨_, pss_cons (ps_set (i := 1) sc_order.nd rfl (Or.inl rfl) (pe_callTy (call_list_rng rfl) (by rfl) T.list PyProof.Rows.boot_list (pa_cons (pe_callTy call_range1 (by rfl) T.range PyProof.Rows.boot_range (pa_cons (pe_callB call_len_seq (by rfl) T.len PySem.boot_len (pa_cons (pv 0) pa_nil)) pa_nil)) pa_nil)))
      (pss_cons (ps_for PassesOwn.never rfl (pi_rangeD (by rfl) T.range (pa_cons (pe_maxD rfl (by rfl) T2.max (pa_cons (pv 0) pa_nil) (pk_cons pe_int pk_nil)) (pa_cons pe_int (pa_cons (pe_un un_neg pe_int) pa_nil)))) (pg_name (i := 2) sc_order.nd rfl (Or.inr rfl))
        (pss_cons (ps_compF (i := 3) (g := gTup K 2 (gCons (gName 0) (gCons (gName 1) gNil))) (te := tVar 0) (tc := tTest (tOp (rI0 fun i j => .bl (decide (j ≤ i))) (tVar 1) (tVar 2))) scc_order rfl rfl rfl (pi_enum (by rfl) T.enumerate (pa_cons (pv 0) pa_nil))
          (fun _ _ _ _ _ _ => pg_tup rfl (pgs_cons (pg_name (i := 0) ndc_order rfl (Or.inl rfl)) (pgs_cons (pg_name (i := 1) ndc_order rfl (Or.inl rfl)) pgs_nil))) (fun _ _ _ _ _ _ => pv 0) (fun _ _ _ _ _ _ => pt_cmpR op_ge (pv 1) (pv 2) (nomark _)) sc_order.nd rfl rfl rfl)
        (pss_one (ps_for PassesOwn.never rfl (pi_list (pe_def D1 hr1 (pa_cons (pv 3) pa_nil))) (pg_tup rfl (pgs_cons (pg_name (i := 4) sc_order.nd rfl (Or.inl rfl)) (pgs_cons (pg_name (i := 5) sc_order.nd rfl (Or.inl rfl)) pgs_nil)))
          (pss_one (ps_set (i := 1) sc_order.nd rfl (Or.inl rfl) (pe_def D2 hr1 (pa_cons (pv 1) (pa_cons (pv 4) (pa_cons (pv 5) pa_nil))))))))))
      (pss_one (ps_ret (pv 1)))), ?_⟩
    refine ⟨_, rfl, a, _, rfl, .inl hS, _, rfl, fun g hg => ?_⟩
    have s1 := Same.upd0 (o := .rng 0 ((vI row).length : Int)) hg
    refine ⟨g, 0, _, row.length, rfl, upd_same, by decide, by rw [ints_len]; omega, by rw [ints_len]; omega, by omega, fun tA hl => ?_⟩
    rw [iota_vN]
    have nT0 := s1.free hl
    have s2 := Same.upd (o := .lst (vN (List.range row.length))) s1 hl
    have e2 : upd (upd H g (.rng 0 ((vI row).length : Int))) tA (.lst (vN (List.range row.length))) tA = some (.lst (vN (List.range row.length))) := upd_same
    generalize upd (upd H g (.rng 0 ((vI row).length : Int))) tA (.lst (vN (List.range row.length))) = H2 at s2 e2 ⊢
    clear hl s1
    refine ⟨_, rfl, a, row, 0, rfl, rfl, s2.seq hS, fun M hM => ?_⟩
    obtain ⟨m0, m9, eO⟩ := theOrd_top hR hM
    refine ⟨_, rfl, M, 0, rfl, ⟨by omega, by omega, by decide, by decide⟩, ?_⟩
    rw [show M - 0 = M by omega]
    refine for_rangeD (hi := M) (n := M.toNat) (fun i σ H3 => ∃ (tA : Addr) (v2 v3 v4 v5 : Option V), σ = [some (.ref a), some (.ref tA), v2, v3, v4, v5] ∧ Same H H3 ∧ H tA = none ∧ H3 tA = some (.lst (vN (TM.ord (lvl row) i (M - i) (List.range row.length)))))
      ⟨tA, _, _, _, _, rfl, s2, nT0, e2⟩ ?_ ?_
    · clear e2 nT0 s2
      rintro i σ H3 hi ⟨tA, v2, v3, v4, v5, rfl, s3, nT, hT⟩
      dsimp only [gName]
      refine ⟨_, rfl, a, _, rfl, s3.seq hS, ?_⟩
      refine compF_it row.length (fun j ys σ' H4 => Same H3 H4 ∧ ys = vN (highs row (M - i) j) ∧ ∃ v0 v1 : Option V, σ' = [v0, v1, some (.int (M - i))]) (le_line (by omega)) ⟨Same.refl _, rfl, _, _, rfl⟩
        (fun j ys σ' H4 ⟨_, e, _⟩ => by rw [e, vN_len]; exact highs_len row _ j) ?_ ?_ ?_ ?_
      · rintro j ys σ' H4 hj ⟨s4, _, _⟩
        exact ⟨_, V.int (row[j]), (Same.trans s3 s4).seq hS, by rw [List.getElem?_map, List.getElem?_eq_getElem hj]; rfl⟩
      · rintro ys σ' H4 ⟨s4, _, _⟩
        exact ⟨_, (Same.trans s3 s4).seq hS, ints_len row⟩
      · rintro j ys σ' H4 v H5 C hj ⟨s4, rfl, v0, v1, rfl⟩ ⟨tp, x1, rfl, ntp, rfl, hx⟩ kk
        have ex := row_get (hx _ ((Same.trans s3 s4).seq hS))
        subst ex
        refine ⟨tp, _, rfl, SqT.of upd_same, rfl, _, _, rfl, _, _, rfl, rfl, ?_⟩
        refine ⟨_, rfl, _, rfl, _, _, rfl, rfl, _, rfl, ?_⟩
        refine bOf (fun h1 => ?_) (fun h1 => ?_)
        · refine ⟨_, rfl, kk _ _ _ ⟨Same.upd s4 ntp, ?_, _, _, rfl⟩⟩
          rw [highs_succ, if_pos (of_decide_eq_true h1), vN_snoc]
        · refine kk _ _ _ ⟨Same.upd s4 ntp, ?_, _, _, rfl⟩
          rw [highs_succ, if_neg (of_decide_eq_false h1), List.append_nil]
      · rintro ys σ' H4 ⟨s4, rfl, _⟩ hA nH
        have s5 := Same.trans s3 (Same.upd (o := .lst (vN (highs row (M - i) row.length))) s4 nH)
        have t5 := Same.upd (o := .lst (vN (highs row (M - i) row.length))) s4 nH _ _ hT
        have h5 : upd H4 hA (.lst (vN (highs row (M - i) row.length))) hA = some (.lst (vN (highs row (M - i) row.length))) := upd_same
        generalize upd H4 hA (.lst (vN (highs row (M - i) row.length))) = H5 at s5 t5 h5 ⊢
        have hhl := highs_len row (M - i) row.length
        refine ⟨_, rfl, hA, _, rfl, SqL.of h5, by omega, fun rA as H6 s6 nR hRr hTup => ?_⟩
        refine ⟨rA, rfl, ⟨_, SqL.of hRr⟩, ?_⟩
        have hrows := highs_rows row (M - i)
        have hturn := highs_turn row i (M - i)
        have hol : (TM.ord (lvl row) i (M - i) (List.range row.length)).length = row.length := by rw [(TM.ord_perm i (M - i) _).length_eq, List.length_range]
        generalize lrows (highs row (M - i) row.length) = L at hTup hrows hturn
        generalize TM.ord (lvl row) i (M - i) (List.range row.length) = T0 at t5 hturn hol
        refine for_list (K := K) (xs := as.map V.ref) (fun j σ H7 => ∃ (tA : Addr) (v4 v5 : Option V), σ = [some (.ref a), some (.ref tA), some (.int (M - i)), some (.ref hA), v4, v5] ∧ Same H6 H7 ∧ H tA = none ∧ H7 tA = some (.lst (vN ((L.take j).foldl turn1 T0))))
          ⟨tA, _, _, rfl, Same.refl _, nT, s6 _ _ t5⟩ ?_ ?_ ?_
        · rintro j σ H7 _ ⟨tA, v4, v5, rfl, s7, nT, hT⟩
          exact SqL.of (s7 _ _ hRr)
        · rintro j x σ H7 hx ⟨tA, v4, v5, rfl, s7, nT, hT⟩
          obtain ⟨t, ht, rfl⟩ := refs_get hx
          obtain ⟨y, hy, hty⟩ := hTup.at ht
          obtain ⟨x, hx', rfl⟩ := toF_get hy
          have hin := hrows x (List.mem_of_getElem? hx')
          have htl : ((L.take j).foldl turn1 T0).length = row.length := by
            rw [turns_len (fun y hy => by rw [hol]; exact hrows y (List.mem_of_mem_take hy)), hol]
          refine ⟨t, _, rfl, SqT.of (s7 _ _ hty), rfl, _, _, rfl, _, _, rfl, rfl, ?_⟩
          refine ⟨_, rfl, _, rfl, _, rfl, tA, _, x, rfl, SqL.of hT, hin.1, by rw [htl]; exact hin.2, by rw [htl]; exact hlen, fun p H8 s8 nP hP => ?_⟩
          refine ⟨p, _, _, rfl, Same.trans s7 s8, (Same.trans (Same.trans s5 s6) s7).free nP, ?_⟩
          rw [foldl_take_succ turn1 T0 hx']
          exact hP
        · rintro σ H7 ⟨tA, v4, v5, rfl, s7, nT, hT⟩
          refine ⟨tA, _, _, _, _, rfl, Same.trans (Same.trans s5 s6) s7, nT, ?_⟩
          have el : (as.map V.ref).length = L.length := by rw [List.length_map, hTup.len, toF_len]
          rw [el, List.take_length, hturn] at hT
          rw [hT, show M - ((i + 1 : Nat) : Int) = M - (i : Int) - 1 by omega]
    · rintro σ H3 ⟨tA, v2, v3, v4, v5, rfl, s3, nT, hT⟩
      refine ⟨_, rfl, k tA H3 s3 nT ?_⟩
      rw [show M - (M.toNat : Int) = 0 by omega, eO] at hT
      exact hT
theorem sc_check_cuts : FnScope ["count", "cuts", "ahead", "cut"] ["count", "cuts"] (defScope s_check_cuts) := ⟨rfl, rfl, rfl, by decide +kernel, rfl, by decide +kernel, by decide +kernel⟩
theorem ok_check_cuts {f : Addr} {fd : FuncData} (F : Fun K "check_cuts" "check_cuts" s_check_cuts f fd) : FnOk P w K mg base CX0 1 f fd ["count", "cuts"] (spCheck K) := by
  refine F.ok sc_check_cuts (fun vs H Q E h => ?_) (fun cdv A outer s H vs Q E hr h => ?_)
  · obtain ⟨c, cs, n, rfl, _⟩ := h
    rfl
  · obtain ⟨c, cs, n, rfl, hS, hok, k⟩ := h
    refine ⟨_, pss_cons (ps_set (i := 2) sc_check_cuts.nd rfl (Or.inl rfl) pe_int)
      (pss_one (ps_for PassesOwn.never rfl (pi_list (pv 1)) (pg_name (i := 3) sc_check_cuts.nd rfl (Or.inl rfl))
        (pss_cons (ps_if (pw_or (pt_cmpR op_le (pv 3) (pv 2) (nomark _)) (pw_or1 (pt_cmpR op_ge (pv 3) (pv 0) (nomark _)))).pt pss_never pss_nil)
        (pss_one (ps_set (i := 2) sc_check_cuts.nd rfl (Or.inl rfl) (pv 3)))))), ?_⟩
    refine ⟨_, rfl, c, rfl, ⟨_, hS⟩, ?_⟩
    refine for_list (xs := vI cs) (fun i σ H2 => H2 = H ∧ ∃ (a : Int) (v3 : Option V), σ = [some (.int n), some (.ref c), some (.int a), v3] ∧ okC n a (cs.drop i)) ⟨rfl, 0, _, rfl, hok⟩ ?_ ?_ ?_
    · rintro i σ H2 _ ⟨rfl, _⟩
      exact hS
    · rintro i σ H2 x hx ⟨rfl, a, v3, rfl, ha⟩
      have hi : i < cs.length := by
        have := (List.getElem?_eq_some_iff.mp hx).1
        rw [ints_len] at this
        exact this
      rw [List.drop_eq_getElem_cons hi] at ha
      obtain ⟨h1, h2, h3⟩ := ha
      rw [List.getElem?_map, List.getElem?_eq_getElem hi] at hx
      cases hx
      dsimp only [gName]
      refine ⟨_, rfl, _, rfl, _, _, rfl, rfl, _, rfl, ?_⟩
      rw [show decide (cs[i] ≤ a) = false from decide_eq_false (by omega)]
      refine iteF ⟨_, rfl, _, rfl, _, _, rfl, rfl, _, rfl, ?_⟩
      rw [show decide (n ≤ cs[i]) = false from decide_eq_false (by omega)]
      refine iteF ⟨_, rfl, rfl, _, _, rfl, h3⟩
    · rintro σ H2 ⟨rfl, _⟩
      exact k
theorem no_check_cuts {f : Addr} {fd : FuncData} {C : Addr} (F : Fun K "check_cuts" "check_cuts" s_check_cuts f fd) (hq : PySem.W.excIn K C [.type "ValueError", .type "Exception", .type "BaseException", .type "object"] "ValueError.__new__" = true) (hm : mg "NoCut" = some (.ref C)) :
    FnOk P w K mg base (CX1 P w) 1 f fd ["count", "cuts"] (spNoCheck K C) := by
  refine ok1 F sc_check_cuts (fun vs H Q E h => ?_) (fun cdv A outer s H vs Q E hr h => ?_)
  · obtain ⟨c, cs, n, rfl, _⟩ := h
    rfl
  · obtain ⟨c, cs, n, rfl, hS, hno, hE⟩ := h
    refine ⟨_, pss_cons (ps_set (i := 2) sc_check_cuts.nd rfl (Or.inl rfl) pe_int)
      (pss_one (ps_for PassesOwn.leaving rfl (pi_list (pv 1)) (pg_name (i := 3) sc_check_cuts.nd rfl (Or.inl rfl))
        (pss_cons (ps_if (pw_or (pt_cmpR op_le (pv 3) (pv 2) (nomark _)) (pw_or1 (pt_cmpR op_ge (pv 3) (pv 0) (nomark _)))).pt
          (pss_one (ps_raise PySem.F.excBase_ValueError hq hm (by rfl) (pa_cons pe_str pa_nil) (by decide) rfl rfl)) pss_nil)
        (pss_one (ps_set (i := 2) sc_check_cuts.nd rfl (Or.inl rfl) (pv 3)))))), ?_⟩
    have fin : (([V.str "x"] : List V).length ≤ sizeLine ∧ Same H H ∧ E (.ref C) none H) := ⟨by decide, Same.refl H, hE⟩
    refine ⟨_, rfl, c, rfl, ⟨_, hS⟩, ?_⟩
    refine for_list (xs := vI cs) (fun i σ H2 => H2 = H ∧ ∃ (a : Int) (v3 : Option V), σ = [some (.int n), some (.ref c), some (.int a), v3] ∧ ¬ okC n a (cs.drop i)) ⟨rfl, 0, _, rfl, hno⟩ ?_ ?_ ?_
    · rintro i σ H2 _ ⟨rfl, _⟩
      exact hS
    · rintro i σ H2 x hx ⟨rfl, a, v3, rfl, ha⟩
      have hi : i < cs.length := by
        have := (List.getElem?_eq_some_iff.mp hx).1
        rw [ints_len] at this
        exact this
      rw [List.drop_eq_getElem_cons hi] at ha
      rw [List.getElem?_map, List.getElem?_eq_getElem hi] at hx
      cases hx
      dsimp only [gName]
      refine ⟨_, rfl, _, rfl, _, _, rfl, rfl, _, rfl, ?_⟩
      refine bOf (fun _ => fin) (fun h1 => ?_)
      have h1 : ¬ cs[i] ≤ a := of_decide_eq_false h1
      refine ⟨_, rfl, _, rfl, _, _, rfl, rfl, _, rfl, ?_⟩
      refine bOf (fun _ => fin) (fun h2 => ?_)
      have h2 : ¬ n ≤ cs[i] := of_decide_eq_false h2
      exact ⟨_, rfl, rfl, _, _, rfl, fun h3 => ha ⟨by omega, by omega, h3⟩⟩
    · rintro σ H2 ⟨rfl, a, v3, rfl, ha⟩
      rw [ints_len, List.drop_length] at ha
      exact absurd trivial ha
def scx_lines : Scope := match s_lines with
  | .FunctionDef _ _ (_ :: _ :: _ :: .For _ _ (.Expr (.Call _ (.ListComp _ _ sc _ :: _) _ _) _ :: _) _ _ :: _) _ _ _ _ _ _ _ => sc
  | _ => { kind := .function, names := [], isGenerator := false, isCoroutine := false }
theorem sc_lines : FnScope ["levels", "cuts", "edges", "told", "first", "behind"] ["levels", "cuts"] (defScope s_lines) := ⟨rfl, rfl, rfl, by decide +kernel, rfl, by decide +kernel, by decide +kernel⟩
theorem scc_lines : CompSc (defScope s_lines) ["levels", "cuts", "edges", "told", "first", "behind"] ["place"] ["first"] [4] scx_lines :=
  ⟨by decide +kernel, by decide +kernel, by decide +kernel, by decide +kernel, by decide +kernel, by decide +kernel, by decide +kernel⟩
theorem ndc_lines : (["place", "first"] : List Str).Nodup := by decide +kernel
theorem ok_lines {f : Addr} {fd : FuncData} (F : Fun K "lines" "lines" s_lines f fd) (T : Blt mg) (D1 : Def P w K mg base "check_cuts" 1 ["count", "cuts"] (spCheck K)) (D2 : Def P w K mg base "order" 3 ["levels"] (spOrder K)) :
    FnOk P w K mg base CX0 4 f fd ["levels", "cuts"] (spLines K) := by
  refine F.ok sc_lines (fun vs H Q E h => ?_) (fun cdv A outer s H vs Q E hr h => ?_)
  · obtain ⟨a, c, row, ds, rfl, _⟩ := h
    rfl
  · obtain ⟨a, c, row, ds, rfl, hS, hR, hC, hok, hdl, k⟩ := h
    have hlen := hR.len
    have hr1 : Room 1 _ := hr.mono (by decide)
    refine ⟨_, pss_cons (ps_expr (pe_def D1 hr1 (pa_cons (pe_callB call_len_seq (by rfl) T.len PySem.boot_len (pa_cons (pv 0) pa_nil)) (pa_cons (pv 1) pa_nil))))
      (pss_cons (ps_set (i := 2) sc_lines.nd rfl (Or.inl rfl) (pe_op op_cat (pe_op op_cat (pe_lst (pa_cons pe_int pa_nil)) (pv 1)) (pe_lst (pa_cons (pe_callB call_len_seq (by rfl) T.len PySem.boot_len (pa_cons (pv 0) pa_nil)) pa_nil))))
      (pss_cons (ps_set (i := 3) sc_lines.nd rfl (Or.inl rfl) (pe_lst pa_nil))
      (pss_cons (ps_for PassesOwn.never rfl (pi_zip2e (by rfl) T.zip (pa_cons (pv 2) (pa_cons (pe_slice sl_list (pv 2) (po_some pe_int) po_none) pa_nil))) (pg_tup rfl (pgs_cons (pg_name (i := 4) sc_lines.nd rfl (Or.inr rfl)) (pgs_cons (pg_name (i := 5) sc_lines.nd rfl (Or.inl rfl)) pgs_nil)))
        (pss_one (ps_expr (pe_bm PySem.F.plainAttrs_list PySem.F.slot_list_append PySem.F.type_list_append mt_append (pv 3) (pa_cons
          (pe_comp scc_lines rfl rfl rfl (pi_list (pe_def D2 hr (pa_cons (pe_slice sl_list (pv 0) (po_some (pv 4)) (po_some (pv 5))) pa_nil))) (fun _ _ _ _ _ _ => pg_name (i := 0) ndc_lines rfl (Or.inl rfl)) (fun _ _ _ _ _ _ => pe_op op_add (pv 1) (pv 0))) pa_nil)))))
      (pss_one (ps_ret (pv 3)))))), ?_⟩
    refine ⟨_, rfl, a, _, rfl, .inl hS, _, rfl, c, toI ds, _, rfl, SqL.of (by rw [hC, vN_vI]), (by rw [ints_len]; exact hok), ?_⟩
    -- edges
    refine ⟨(by show 1 ≤ sizeLine; decide), fun z0 n0 => ?_⟩
    have s1 := Same.upd0 (o := .lst [V.int 0]) n0
    have e1 : upd H z0 (.lst [V.int 0]) z0 = some (.lst [V.int 0]) := upd_same
    have c1 := s1 _ _ hC
    generalize upd H z0 (.lst [V.int 0]) = H1 at s1 e1 c1 ⊢
    refine ⟨_, rfl, z0, c, _, _, rfl, rfl, e1, c1, le_line (by rw [vN_len]; show 1 + _ ≤ _; omega), fun z1 n1 => ?_⟩
    have s2 := Same.upd (o := .lst ([V.int 0] ++ vN ds)) s1 n1
    have e2 : upd H1 z1 (.lst ([V.int 0] ++ vN ds)) z1 = some (.lst (vN (0 :: ds))) := upd_same
    generalize upd H1 z1 (.lst ([V.int 0] ++ vN ds)) = H2 at s2 e2 ⊢
    refine ⟨_, rfl, a, _, rfl, .inl (s2.seq hS), (by show 1 ≤ sizeLine; decide), fun z2 n2 => ?_⟩
    rw [ints_len]
    have s3 := Same.upd (o := .lst [V.int (row.length : Int)]) s2 n2
    have e3 := Same.upd0 (o := .lst [V.int (row.length : Int)]) n2 _ _ e2
    have g3 : upd H2 z2 (.lst [V.int (row.length : Int)]) z2 = some (.lst [V.int (row.length : Int)]) := upd_same
    generalize upd H2 z2 (.lst [V.int (row.length : Int)]) = H3 at s3 e3 g3 ⊢
    refine ⟨z1, z2, _, _, rfl, rfl, e3, g3, le_line (by rw [vN_len]; simp; omega), fun eA nE => ?_⟩
    rw [vN_snoc]
    have s4 := Same.upd (o := .lst (vN (0 :: ds ++ [row.length]))) s3 nE
    have e4 : upd H3 eA (.lst (vN (0 :: ds ++ [row.length]))) eA = some (.lst (vN (0 :: ds ++ [row.length]))) := upd_same
    generalize upd H3 eA (.lst (vN (0 :: ds ++ [row.length]))) = H4 at s4 e4 ⊢
    dsimp only [gName]
    -- told
    refine ⟨Nat.zero_le _, fun tA nT => ?_⟩
    have s5 := Same.upd (o := .lst []) s4 nT
    have nT0 := s4.free nT
    have e5 := Same.upd0 (o := .lst []) nT _ _ e4
    have t5 : upd H4 tA (.lst []) tA = some (.lst (([] : List Addr).map V.ref)) := upd_same
    have nEt : eA ≠ tA := ne_of_none e4 nT
    generalize upd H4 tA (.lst []) = H5 at s5 e5 t5 ⊢
    clear s1 e1 c1 s2 e2 s3 e3 g3 s4 e4 n0 n1 n2 nE nT
    dsimp only [gName]
    -- the pairs
    refine ⟨_, rfl, _, rfl, _, rfl, eA, _, rfl, SqL.of e5, fun xA nX => ?_⟩
    rw [show cutV (vN (0 :: ds ++ [row.length])) (some 1) none = vN ((0 :: ds ++ [row.length]).drop 1) from cut_from (0 :: ds ++ [row.length]) (i := 1) (by simp)]
    have s6 := Same.upd (o := .lst (vN ((0 :: ds ++ [row.length]).drop 1))) s5 nX
    have e6 := Same.upd0 (o := .lst (vN ((0 :: ds ++ [row.length]).drop 1))) nX _ _ e5
    have t6 := Same.upd0 (o := .lst (vN ((0 :: ds ++ [row.length]).drop 1))) nX _ _ t5
    have nXt : xA ≠ tA := (ne_of_none t5 nX).symm
    have x6 : upd H5 xA (.lst (vN ((0 :: ds ++ [row.length]).drop 1))) xA = some (.lst (vN (ds ++ [row.length]))) := upd_same
    generalize upd H5 xA (.lst (vN ((0 :: ds ++ [row.length]).drop 1))) = H6 at s6 e6 t6 x6 ⊢
    refine ⟨_, _, _, _, rfl, .lst (SqL.of e6), .lst (SqL.of x6), ?_⟩
    refine for_it (ds.length + 1) (fun i σ H7 => ∃ (as : List Addr) (v4 v5 : Option V), σ = [some (.ref a), some (.ref c), some (.ref eA), some (.ref tA), v4, v5] ∧ Same H H7 ∧ H7 tA = some (.lst (as.map V.ref)) ∧ H7 eA = some (.lst (vN (0 :: ds ++ [row.length]))) ∧ H7 xA = some (.lst (vN (ds ++ [row.length]))) ∧
      ListsAt H7 as ((linesOf row ds).take i) ∧ as.Nodup ∧ (∀ b ∈ as, H b = none ∧ b ≠ tA) ∧ as.length ≤ i) ⟨[], _, _, rfl, s6, t6, e6, x6, .nil, .nil, by simp, Nat.le_refl _⟩ ?_ ?_ ?_ ?_
    · rintro i σ H7 hi ⟨as, v4, v5, rfl, s7, t7, e7, x7, _⟩
      exact ⟨⟨_, _, SqL.of e7, List.getElem?_eq_getElem (by rw [vN_len]; simp; omega)⟩, ⟨_, _, SqL.of x7, List.getElem?_eq_getElem (by rw [vN_len]; simp; omega)⟩⟩
    · rintro σ H7 ⟨as, v4, v5, rfl, s7, t7, e7, x7, _⟩
      exact ⟨⟨_, _, SqL.of e7, List.getElem?_eq_getElem (by rw [vN_len]; simp)⟩, ⟨_, SqL.of x7, by rw [vN_len]; simp⟩⟩
    · rintro i σ H7 v H8 hi ⟨as, v4, v5, rfl, s7, t7, e7, x7, l7, nd, hout, hal⟩ ⟨tp, x, y, rfl, ntp, rfl, hx, hy⟩
      obtain ⟨f, hf, rfl⟩ := vN_get (hx _ (SqL.of e7))
      obtain ⟨b, hb, rfl⟩ := vN_get (hy _ (SqL.of x7))
      rw [List.getElem?_append_left (by simp; omega)] at hf
      obtain ⟨h1, h2⟩ := okC_at hok (Nat.zero_le _) hf hb
      have hl := linesOf_at (row := row) hf hb
      refine ⟨tp, _, rfl, SqT.of upd_same, rfl, _, _, rfl, _, _, rfl, rfl, ?_⟩
      have s8 := Same.upd (o := .tup [V.int (f : Int), V.int (b : Int)]) s7 ntp
      have q8 := Same.upd0 (o := .tup [V.int (f : Int), V.int (b : Int)]) ntp
      have t8 := q8 _ _ t7
      have e8 := q8 _ _ e7
      have x8 := q8 _ _ x7
      have l8 := l7.same q8
      generalize upd H7 tp (.tup [V.int (f : Int), V.int (b : Int)]) = H8 at s8 t8 e8 x8 l8 ⊢
      clear q8
      dsimp only [gName]
      -- the line
      refine ⟨_, rfl, .inl ⟨rfl, _, SqL.of t8⟩, ?_⟩
      refine ⟨_, rfl, _, rfl, _, rfl, _, rfl, _, rfl, a, _, rfl, s8.seq hS, fun cA nC => ?_⟩
      rw [cut_row row h1 h2]
      have s9 := Same.upd (o := .lst (vI (cutR row f b))) s8 nC
      have q9 := Same.upd0 (o := .lst (vI (cutR row f b))) nC
      have c9 : upd H8 cA (.lst (vI (cutR row f b))) cA = some (.lst (vI (cutR row f b))) := upd_same
      generalize upd H8 cA (.lst (vI (cutR row f b))) = H9 at s9 q9 c9 ⊢
      refine ⟨cA, _, rfl, SqL.of c9, cutR_ok hR f b, fun oA H10 s10 nO hO => ?_⟩
      have q10 := Same.trans q9 s10
      have tl : (theOrd (cutR row f b)).length ≤ 60 := by rw [theOrd_len]; exact (cutR_ok hR f b).len
      refine ⟨oA, rfl, ⟨_, SqL.of hO⟩, ?_⟩
      refine comp_list (xs := vN (theOrd (cutR row f b))) (fun j ys H11 => H11 = H10 ∧ ys = vN (((theOrd (cutR row f b)).take j).map (f + ·)) ∧ ys.length = j) (le_line (by rw [vN_len]; omega)) ⟨rfl, rfl, rfl⟩ (fun _ _ _ q => q.2.2) (fun _ _ _ ⟨e, _⟩ => by rw [e]; exact SqL.of hO) ?_ ?_
      · rintro j ys H11 x C hx ⟨rfl, rfl, hjl⟩ kk
        obtain ⟨p, hp, rfl⟩ := vN_get hx
        refine ⟨_, rfl, _, rfl, _, _, rfl, rfl, kk _ _ ⟨rfl, ?_, by rw [List.length_append, hjl]; rfl⟩⟩
        rw [take_snoc hp, List.map_append, ← vN_app]
        rfl
      rintro ys H11 ⟨rfl, rfl, _⟩ lA nL
      have el : ((theOrd (cutR row f b)).take (vN (theOrd (cutR row f b))).length).map (f + ·) = lineOf row f b := by rw [vN_len, List.take_length, cut_line h1 h2]
      rw [el]
      have q11 := Same.upd (o := .lst (vN (lineOf row f b))) q10 nL
      have s12 := Same.trans s8 q11
      have nL0 : H lA = none := Same.free (Same.trans s8 q10) nL
      have nLt : lA ≠ tA := (ne_of_none (q10 _ _ t8) nL).symm
      have nLas : lA ∉ as := fun hm => by
        obtain ⟨g, _, hg⟩ := l8.there lA hm
        rw [q10 _ _ hg] at nL
        cases nL
      have t12 := q11 _ _ t8
      have e12 := q11 _ _ e8
      have x12 := q11 _ _ x8
      have l12 := l8.same q11
      have g12 : upd H11 lA (.lst (vN (lineOf row f b))) lA = some (.lst (vN (lineOf row f b))) := upd_same
      generalize upd H11 lA (.lst (vN (lineOf row f b))) = H12 at s12 t12 e12 x12 l12 g12 ⊢
      refine ⟨tA, _, _, rfl, rfl, t12, small1000 (by rw [List.length_map]; omega), ?_⟩
      refine ⟨as ++ [lA], _, _, rfl, Same.updT s12 nT0, by rw [upd_same]; simp, by rw [upd_ne nEt]; exact e12, by rw [upd_ne nXt]; exact x12, ?_, ?_, fun z hz => ?_, by simp; omega⟩
      · rw [take_snoc hl]
        exact (l12.keep fun z hz => upd_ne (hout z hz).2).snoc (by rw [upd_ne nLt]; exact g12)
      · rw [List.nodup_append]
        exact ⟨nd, by simp, fun z hz w hw => by rw [List.mem_singleton.mp hw]; exact fun e => nLas (e ▸ hz)⟩
      · rcases List.mem_append.mp hz with hz | hz
        · exact hout z hz
        · rw [List.mem_singleton.mp hz]; exact ⟨nL0, nLt⟩
    · rintro σ H7 ⟨as, v4, v5, rfl, s7, t7, e7, x7, l7, nd, hout, hal⟩
      have e : (linesOf row ds).take (ds.length + 1) = linesOf row ds := by rw [← linesOf_len row ds, List.take_length]
      rw [e] at l7
      exact ⟨_, rfl, k tA as H7 s7 nT0 t7 l7 nd hout⟩
theorem no_lines {f g : Addr} {fd gd : FuncData} {C : Addr} (F : Fun K "lines" "lines" s_lines f fd) (T : Blt mg) (G : FnOk P w K mg base (CX1 P w) 1 g gd ["count", "cuts"] (spNoCheck K C)) (hm : mg "check_cuts" = some (.ref g)) (hk : PySem.W.keepIn K (.ref g) = true) (hb : Binds K gd ["count", "cuts"] []) :
    FnOk P w K mg base (CX1 P w) 2 f fd ["levels", "cuts"] (spNoLines K C) := by
  refine ok1 F sc_lines (fun vs H Q E h => ?_) (fun cdv A outer s H vs Q E hr h => ?_)
  · obtain ⟨a, c, row, cs, rfl, _⟩ := h
    rfl
  · obtain ⟨a, c, row, cs, rfl, hS, hC, hno, hE⟩ := h
    refine ⟨_, pss_cons (ps_expr (pe_call G hr (by rfl) hm hk hb .nil pass1 (pa_cons (pe_callB call_len_seq (by rfl) T.len PySem.boot_len (pa_cons (pv 0) pa_nil)) (pa_cons (pv 1) pa_nil)))) pss_never, ?_⟩
    exact ⟨_, rfl, a, _, rfl, .inl hS, _, rfl, c, cs, _, rfl, hC, by rw [ints_len]; exact hno, Same.refl H, hE⟩
theorem sc_cell_at : FnScope ["script", "k"] ["script", "k"] (defScope s__law_cell_at) := ⟨rfl, rfl, rfl, by decide +kernel, rfl, by decide +kernel, by decide +kernel⟩
theorem ok_cell_at {f : Addr} {fd : FuncData} (F : Fun K "_law_cell_at" "_law_cell_at" s__law_cell_at f fd) (T : Blt mg) : FnOk P w K mg base CX0 1 f fd ["script", "k"] (spCell K) := by
  refine F.ok sc_cell_at (fun vs H Q E h => ?_) (fun cdv A outer s H vs Q E hr h => ?_)
  · obtain ⟨a, ns, k, rfl, _⟩ := h
    rfl
  · obtain ⟨a, ns, j, rfl, hS, h0, k⟩ := h
    refine ⟨_, pss_cons (ps_if (pt_cmpR op_lt (pv 1) (pe_callB call_len_seq (by rfl) T.len PySem.boot_len (pa_cons (pv 0) pa_nil)) (nomark _)) (pss_one (ps_ret (pe_ix ix_list (pv 0) (pv 1) (fun _ _ => rfl)))) pss_nil)
      (pss_one (ps_ret pe_int)), ?_⟩
    refine ⟨_, rfl, _, rfl, a, _, rfl, .inl hS, _, _, rfl, rfl, _, rfl, ?_⟩
    rw [List.length_map]
    refine bOf (fun h1 => ?_) (fun h1 => ?_)
    · have h1' : j < (ns.length : Int) := of_decide_eq_true h1
      have hj : j.toNat < ns.length := by omega
      exact ⟨_, rfl, _, rfl, a, _, _, V.int (ns.getD j.toNat 0), rfl, rfl, hS, ints_at h0 h1', k⟩
    · have h1' : ¬ j < (ns.length : Int) := of_decide_eq_false h1
      have e : ns.getD j.toNat 0 = 0 := by
        rw [List.getD_eq_getElem?_getD, List.getElem?_eq_none (by omega)]
        rfl
      rw [e] at k
      exact k
theorem sc_pick : FnScope ["script", "k"] ["script", "k"] (defScope s__law_pick) := ⟨rfl, rfl, rfl, by decide +kernel, rfl, by decide +kernel, by decide +kernel⟩
theorem ok_pick {f : Addr} {fd : FuncData} (F : Fun K "_law_pick" "_law_pick" s__law_pick f fd) (T : Blt mg) (D : Def P w K mg base "_law_cell_at" 1 ["script", "k"] (spCell K)) : FnOk P w K mg base CX0 2 f fd ["script", "k"] (spPick K) := by
  refine F.ok sc_pick (fun vs H Q E h => ?_) (fun cdv A outer s H vs Q E hr h => ?_)
  · obtain ⟨a, ns, k, rfl, _⟩ := h
    rfl
  · obtain ⟨a, ns, j, rfl, hS, h0, k⟩ := h
    refine ⟨_, pss_cons (ps_if (pt_cmpR op_lt (pv 1) (pe_callB call_len_seq (by rfl) T.len PySem.boot_len (pa_cons (pv 0) pa_nil)) (nomark _)) (pss_one (ps_ret (pe_ix ix_list (pv 0) (pv 1) (fun _ _ => rfl)))) pss_nil)
      (pss_one (ps_ret (pe_op op_fdiv (pe_op op_mod (pe_op op_mul (pe_op op_add (pe_op op_add (pe_def D hr (pa_cons (pv 0) (pa_cons pe_int pa_nil))) (pe_op op_mul pe_int (pv 1))) pe_int) pe_int) pe_int) pe_int))), ?_⟩
    refine ⟨_, rfl, _, rfl, a, _, rfl, .inl hS, _, _, rfl, rfl, _, rfl, ?_⟩
    rw [List.length_map]
    refine bOf (fun h1 => ?_) (fun h1 => ?_)
    · have h1' : j < (ns.length : Int) := of_decide_eq_true h1
      exact ⟨_, rfl, _, rfl, a, _, _, _, rfl, rfl, hS, ints_at h0 h1', k _⟩
    · refine ⟨_, rfl, a, ns, 0, rfl, hS, Int.le_refl _, _, rfl, _, _, rfl, rfl, .inl ⟨by decide, by decide⟩, _, _, rfl, rfl, _, _, rfl, rfl, _, _, rfl, rfl, .inr ⟨by decide, by decide⟩, _, _, rfl, rfl, (by show (0 : Int) < 2147483647; decide), _, _, rfl, rfl, ⟨by decide, by decide⟩, k _⟩
theorem sc_mix : FnScope ["cell", "k", "mixed"] ["cell", "k"] (defScope s__law_mix) := ⟨rfl, rfl, rfl, by decide +kernel, rfl, by decide +kernel, by decide +kernel⟩
theorem ok_mix {f : Addr} {fd : FuncData} (F : Fun K "_law_mix" "_law_mix" s__law_mix f fd) : FnOk P w K mg base CX0 1 f fd ["cell", "k"] spMix := by
  refine F.ok sc_mix (fun vs H Q E h => ?_) (fun cdv A outer s H vs Q E hr h => ?_)
  · obtain ⟨a, b, rfl, _⟩ := h
    rfl
  · obtain ⟨a, b, rfl, k⟩ := h
    refine ⟨_, pss_cons (ps_set (i := 2) sc_mix.nd rfl (Or.inl rfl) (pe_op op_mod (pe_op op_add (pe_op op_add (pe_op op_mul (pv 0) pe_int) (pe_op op_mul pe_int (pv 1))) pe_int) pe_int))
      (pss_one (ps_ret (pe_op op_mod (pe_op op_add (pe_op op_add (pe_op op_mul (pv 2) (pv 2)) (pe_op op_mul pe_int (pv 2))) (pv 1)) pe_int))), ?_⟩
    refine ⟨_, rfl, _, _, rfl, rfl, .inr ⟨by decide, by decide⟩, _, rfl, _, _, rfl, rfl, .inl ⟨by decide, by decide⟩, _, _, rfl, rfl, _, _, rfl, rfl, _, _, rfl, rfl, (by show (0 : Int) < 2147483629; decide), ?_⟩
    have h0 : 0 ≤ (a * 69621 + 7001 * b + 3) % 2147483629 := Int.emod_nonneg _ (by decide)
    have h1 : (a * 69621 + 7001 * b + 3) % 2147483629 < 2147483629 := Int.emod_lt_of_pos _ (by decide)
    exact ⟨_, rfl, _, rfl, _, _, rfl, rfl, .inl ⟨by omega, by omega⟩, _, rfl, _, _, rfl, rfl, .inl ⟨by decide, by decide⟩, _, _, rfl, rfl, _, rfl, _, _, rfl, rfl, _, _, rfl, rfl, (by show (0 : Int) < 2147483647; decide), k _⟩
theorem sc_size : FnScope ["cell"] ["cell"] (defScope s__law_size) := ⟨rfl, rfl, rfl, by decide +kernel, rfl, by decide +kernel, by decide +kernel⟩
theorem ok_size {f : Addr} {fd : FuncData} (F : Fun K "_law_size" "_law_size" s__law_size f fd) : FnOk P w K mg base CX0 1 f fd ["cell"] spSize := by
  refine F.ok sc_size (fun vs H Q E h => ?_) (fun cdv A outer s H vs Q E hr h => ?_)
  · obtain ⟨a, rfl, _⟩ := h
    rfl
  · obtain ⟨a, rfl, k⟩ := h
    refine ⟨_, pss_cons (ps_if (pt_cmpR op_eq (pe_op op_mod (pe_op op_fdiv (pv 0) pe_int) pe_int) pe_int (nomark _)) (pss_one (ps_ret pe_int)) pss_nil) (pss_one (ps_ret (pe_op op_mod (pv 0) pe_int))), ?_⟩
    refine ⟨_, rfl, _, _, rfl, rfl, ⟨by decide, by decide⟩, _, _, rfl, rfl, (by show (0 : Int) < 9; decide), rfl, _, rfl, ?_⟩
    refine bOf (fun h1 => ?_) (fun h1 => ?_)
    · exact k 60 (by decide) (by decide)
    · have h0 : 0 ≤ a % 20 := Int.emod_nonneg _ (by decide)
      have h1 : a % 20 < 20 := Int.emod_lt_of_pos _ (by decide)
      exact ⟨_, rfl, _, _, rfl, rfl, (by show (0 : Int) < 20; decide), k _ h0 (by omega)⟩
theorem sc_law_row : FnScope ["script", "start", "size", "way", "found", "k", "mixed", "last"] ["script", "start", "size", "way"] (defScope s__law_row) := ⟨rfl, rfl, rfl, by decide +kernel, rfl, by decide +kernel, by decide +kernel⟩
theorem ok_law_row {f : Addr} {fd : FuncData} (F : Fun K "_law_row" "_law_row" s__law_row f fd) (T : Blt mg) (T2 : BltB mg) (D1 : Def P w K mg base "_law_pick" 2 ["script", "k"] (spPick K)) (D2 : Def P w K mg base "_law_mix" 1 ["cell", "k"] spMix) : FnOk P w K mg base CX0 3 f fd ["script", "start", "size", "way"] (spRow K) := by
  refine F.ok sc_law_row (fun vs H Q E h => ?_) (fun cdv A outer s H vs Q E hr h => ?_)
  · obtain ⟨a, ns, st, n, way, rfl, _⟩ := h
    rfl
  · obtain ⟨a, ns, st, n, way, rfl, hS, hst, hn0, hn, k⟩ := h
    refine ⟨_, pss_cons (ps_set (i := 4) sc_law_row.nd rfl (Or.inl rfl) (pe_lst pa_nil))
      (pss_cons (ps_for PassesOwn.never rfl (pi_range1 rfl T.range (pa_cons (pv 2) pa_nil)) (pg_name (i := 5) sc_law_row.nd rfl (Or.inl rfl))
        (pss_cons (ps_set (i := 6) sc_law_row.nd rfl (Or.inl rfl) (pe_def D2 (hr.mono (by decide)) (pa_cons (pe_def D1 hr (pa_cons (pv 0) (pa_cons (pe_op op_add (pv 1) (pv 5)) pa_nil))) (pa_cons (pv 5) pa_nil))))
        (pss_one (ps_if (pt_cmpR op_eq (pv 3) pe_int (nomark _))
          (pss_one (ps_expr (pe_bm PySem.F.plainAttrs_list PySem.F.slot_list_append PySem.F.type_list_append mt_append (pv 4) (pa_cons (pe_op op_mod (pe_op op_fdiv (pv 6) pe_int) pe_int) pa_nil))))
          (pss_one (ps_if (pt_cmpR op_eq (pv 3) pe_int (nomark _))
            (pss_one (ps_expr (pe_bm PySem.F.plainAttrs_list PySem.F.slot_list_append PySem.F.type_list_append mt_append (pv 4) (pa_cons (pe_op op_mod (pe_op op_fdiv (pv 6) pe_int) pe_int) pa_nil))))
            (pss_cons (ps_set (i := 7) sc_law_row.nd rfl (Or.inl rfl) (pe_ix ix_list (pe_op op_cat (pe_lst (pa_cons pe_int pa_nil)) (pv 4)) (pe_un un_neg pe_int) (fun _ _ => rfl)))
            (pss_one (ps_expr (pe_bm PySem.F.plainAttrs_list PySem.F.slot_list_append PySem.F.type_list_append mt_append (pv 4)
              (pa_cons (pe_callB (call_min2 rfl) (by rfl) T2.min PyProof.Rows.boot_min (pa_cons pe_int (pa_cons (pe_callB (call_max2 rfl) (by rfl) T2.max PyProof.Rows.boot_max (pa_cons pe_int (pa_cons
                (pe_op op_add (pv 7) (pe_ix ix_list (pe_lst (pa_cons pe_int (pa_cons pe_int (pa_cons pe_int (pa_cons (pe_un un_neg pe_int) (pa_cons pe_int (pa_cons (pe_un un_neg pe_int) pa_nil))))))) (pe_op op_mod (pe_op op_fdiv (pv 6) pe_int) pe_int) (fun _ _ => rfl))) pa_nil))) pa_nil))) pa_nil)))))))))))
      (pss_one (ps_ret (pv 4)))), ?_⟩
    refine ⟨Nat.zero_le _, fun fo hfo => ?_⟩
    refine ⟨_, rfl, n, rfl, by omega, by omega, ?_⟩
    refine for_range (n := n.toNat) (fun i σ H2 => ∃ (row : List Int) (v6 v7 v5 : Option V), σ = [some (.ref a), some (.int st), some (.int n), some (.int way), some (.ref fo), v5, v6, v7] ∧ Same H H2 ∧ H2 fo = some (.lst (vI row)) ∧ RowOk row ∧ row.length = i)
      ⟨[], _, _, _, rfl, Same.upd0 hfo, upd_same, RowOk.nil, rfl⟩ ?_ ?_
    · rintro i σ H2 hi ⟨row, v6, v7, v5, rfl, s2, hF, hR, hl⟩
      refine ⟨_, rfl, _, rfl, _, rfl, _, _, rfl, rfl, a, ns, st + (0 + (i : Int)), rfl, s2.seq hS, by omega, fun c => ?_⟩
      refine ⟨_, rfl, c, _, rfl, fun m => ?_⟩
      dsimp only [gName]
      have hl60 : row.length < 60 := by omega
      have hm10 : 0 ≤ m / 7 % 10 ∧ m / 7 % 10 < 10 := ⟨Int.emod_nonneg _ (by decide), Int.emod_lt_of_pos _ (by decide)⟩
      have hm3 : 0 ≤ m / 7 % 3 ∧ m / 7 % 3 < 3 := ⟨Int.emod_nonneg _ (by decide), Int.emod_lt_of_pos _ (by decide)⟩
      have hm6 : 0 ≤ m / 7 % 6 ∧ m / 7 % 6 < 6 := ⟨Int.emod_nonneg _ (by decide), Int.emod_lt_of_pos _ (by decide)⟩
      refine ⟨_, rfl, rfl, _, rfl, ?_⟩
      refine bOf (fun _ => ?_) (fun _ => ?_)
      · refine ⟨_, rfl, .inl ⟨rfl, _, SqL.of hF⟩, _, rfl, _, _, rfl, rfl, ⟨by decide, by decide⟩, _, _, rfl, rfl, (by show (0 : Int) < 10; decide), fo, _, _, rfl, rfl, hF, small1000 (by rw [ints_len]; omega), ?_⟩
        exact ⟨row ++ [m / 7 % 10], _, _, _, rfl, Same.updT s2 hfo, by rw [upd_same, ints_snoc], rowOk_snoc hR hl60 hm10.1 (by omega), by simp [hl]⟩
      refine ⟨_, rfl, rfl, _, rfl, ?_⟩
      refine bOf (fun _ => ?_) (fun _ => ?_)
      · refine ⟨_, rfl, .inl ⟨rfl, _, SqL.of hF⟩, _, rfl, _, _, rfl, rfl, ⟨by decide, by decide⟩, _, _, rfl, rfl, (by show (0 : Int) < 3; decide), fo, _, _, rfl, rfl, hF, small1000 (by rw [ints_len]; omega), ?_⟩
        exact ⟨row ++ [m / 7 % 3], _, _, _, rfl, Same.updT s2 hfo, by rw [upd_same, ints_snoc], rowOk_snoc hR hl60 hm3.1 (by omega), by simp [hl]⟩
      -- last = ([0] + found)[-1]
      refine ⟨(by show 1 ≤ sizeLine; decide), fun z hz => ⟨_, rfl, z, fo, _, _, rfl, rfl, upd_same, (by rw [upd_ne (ne_of_none hF hz)]; exact hF), le_line (by simp [hl]; omega), fun y hy => ?_⟩⟩
      have hF4 : upd (upd H2 z (.lst [V.int 0])) y (.lst ([V.int 0] ++ vI row)) fo = some (.lst (vI row)) := by
        have h1 : upd H2 z (.lst [V.int 0]) fo = some (.lst (vI row)) := by rw [upd_ne (ne_of_none hF hz)]; exact hF
        rw [upd_ne (ne_of_none h1 hy)]; exact h1
      have s4 : Same H (upd (upd H2 z (.lst [V.int 0])) y (.lst ([V.int 0] ++ vI row))) := Same.upd (Same.upd s2 hz) hy
      have e0 : ([V.int 0] ++ vI row : List V) = vI (0 :: row) := rfl
      refine ⟨_, rfl, y, _, _, _, rfl, rfl, SqL.of upd_same, (by rw [e0]; exact ints_last (by simp)), ?_⟩
      generalize (0 :: row).getLastD 0 = la
      generalize upd (upd H2 z (.lst [V.int 0])) y (.lst ([V.int 0] ++ vI row)) = H4 at hF4 s4 ⊢
      dsimp only [gName]
      obtain ⟨d, hd⟩ := six_at hm6.1 hm6.2
      refine ⟨_, rfl, .inl ⟨rfl, _, SqL.of hF4⟩, _, rfl, _, rfl, _, rfl, (by show 6 ≤ sizeLine; decide), fun x hx => ?_⟩
      refine ⟨_, rfl, _, _, rfl, rfl, ⟨by decide, by decide⟩, _, _, rfl, rfl, (by show (0 : Int) < 6; decide), x, _, _, _, rfl, rfl, SqL.of upd_same, hd, _, _, rfl, rfl, ?_⟩
      have hF5 : upd H4 x (.lst [V.int 0, V.int 0, V.int 1, V.int (-1), V.int 2, V.int (-2)]) fo = some (.lst (vI row)) := by rw [upd_ne (ne_of_none hF4 hx)]; exact hF4
      have s5 : Same H (upd H4 x (.lst [V.int 0, V.int 0, V.int 1, V.int (-1), V.int 2, V.int (-2)])) := Same.upd s4 hx
      refine ⟨_, _, rfl, _, _, rfl, fo, _, _, rfl, rfl, hF5, small1000 (by rw [ints_len]; omega), ?_⟩
      refine ⟨row ++ [_], _, _, _, rfl, Same.updT s5 hfo, by rw [upd_same, ints_snoc], rowOk_snoc hR hl60 ?_ ?_, by simp [hl]⟩
      · split <;> split <;> omega
      · split <;> split <;> omega
    · rintro σ H2 ⟨row, v6, v7, v5, rfl, s2, hF, hR, hl⟩
      exact ⟨_, rfl, k row fo H2 hR (by omega) s2 hfo hF⟩
theorem sc_whole : FnScope ["x"] ["x"] (defScope s__law_whole) := ⟨rfl, rfl, rfl, by decide +kernel, rfl, by decide +kernel, by decide +kernel⟩
theorem ok_whole {f : Addr} {fd : FuncData} (F : Fun K "_law_whole" "_law_whole" s__law_whole f fd) (T : Blt mg) : FnOk P w K mg base CX0 1 f fd ["x"] spWhole := by
  refine F.ok sc_whole (fun vs H Q E h => ?_) (fun cdv A outer s H vs Q E hr h => ?_)
  · obtain ⟨n, rfl, _⟩ := h
    rfl
  · obtain ⟨n, rfl, k⟩ := h
    refine ⟨_, pss_one (ps_ret (pe_and (pe_callB call_isinst (by rfl) T.isinstance PyProof.Rows.boot_isinstance (pa_cons (pv 0) (pa_cons (pe_bltn (v := .ty "int") (by rfl) T.int PyProof.Rows.boot_int rfl) pa_nil)))
      (pe_one (pe_not (pe_callB call_isinst (by rfl) T.isinstance PyProof.Rows.boot_isinstance (pa_cons (pv 0) (pa_cons (pe_bltn (v := .ty "bool") (by rfl) T.bool PyProof.Rows.boot_bool rfl) pa_nil))))))), ?_⟩
    refine ⟨_, rfl, _, _, _, true, rfl, TyOf.int n, rfl, _, rfl, iteT ?_⟩
    exact ⟨_, rfl, _, _, _, false, rfl, TyOf.int n, kit_int_bool K, _, rfl, k⟩
theorem sc_law_list : FnScope ["found", "due", "k"] ["found", "due"] (defScope s__law_list) := ⟨rfl, rfl, rfl, by decide +kernel, rfl, by decide +kernel, by decide +kernel⟩
theorem ok_law_list {f : Addr} {fd : FuncData} (F : Fun K "_law_list" "_law_list" s__law_list f fd) (T : Blt mg) (D : Def P w K mg base "_law_whole" 1 ["x"] spWhole) : FnOk P w K mg base CX0 2 f fd ["found", "due"] (spList K) := by
  refine F.ok sc_law_list (fun vs H Q E h => ?_) (fun cdv A outer s H vs Q E hr h => ?_)
  · obtain ⟨p, q, ns, rfl, _⟩ := h
    rfl
  · obtain ⟨p, q, ns, rfl, hp, hq, hl, k⟩ := h
    refine ⟨_, pss_cons (ps_if (pw_or (pt_not (pt_val (pe_callB call_isinst (by rfl) T.isinstance PyProof.Rows.boot_isinstance (pa_cons (pv 0) (pa_cons (pe_bltn (v := .ty "list") (by rfl) T.list PyProof.Rows.boot_list rfl) pa_nil)))))
        (pw_or1 (pt_cmpR op_ne (pe_callB call_len_seq (by rfl) T.len PySem.boot_len (pa_cons (pv 0) pa_nil)) (pe_callB call_len_seq (by rfl) T.len PySem.boot_len (pa_cons (pv 1) pa_nil)) (nomark _)))).pt (pss_one (ps_ret pe_bl)) pss_nil)
      (pss_cons (ps_for PassesOwn.never rfl (pi_range1 rfl T.range (pa_cons (pe_callB call_len_seq (by rfl) T.len PySem.boot_len (pa_cons (pv 1) pa_nil)) pa_nil)) (pg_name (i := 2) sc_law_list.nd rfl (Or.inl rfl))
        (pss_one (ps_if (pw_or (pt_not (pt_val (pe_def D hr (pa_cons (pe_ix ix_list (pv 0) (pv 2) (fun _ _ => rfl)) pa_nil))))
          (pw_or1 (pt_cmpR op_ne (pe_ix ix_list (pv 0) (pv 2) (fun _ _ => rfl)) (pe_ix ix_list (pv 1) (pv 2) (fun _ _ => rfl)) (nomark _)))).pt (pss_one (ps_ret pe_bl)) pss_nil)))
      (pss_one (ps_ret pe_bl))), ?_⟩
    refine ⟨_, rfl, _, _, _, true, rfl, TyOf.lst hp, rfl, _, rfl, ?_⟩
    refine iteF ⟨_, rfl, p, _, rfl, .inl (SqL.of hp), _, rfl, q, _, rfl, .inl hq, rfl, _, rfl, ?_⟩
    refine iteNS rfl ?_
    refine ⟨_, rfl, q, _, rfl, .inl hq, _, rfl, by omega, by rw [ints_len]; omega, ?_⟩
    refine for_range (n := _) (fun i σ H2 => (∃ v, σ = [some (.ref p), some (.ref q), v]) ∧ H2 = H) ⟨⟨_, rfl⟩, rfl⟩ ?_ ?_
    · rintro i σ H2 hi ⟨⟨v, rfl⟩, rfl⟩
      rw [ints_len] at hi
      have hi' : i < ns.length := by omega
      have at1 : atI (vI ns) (0 + (i : Int)) = some (V.int (ns.getD (0 + (i : Int)).toNat 0)) := ints_at (by omega) (by omega)
      refine ⟨_, rfl, _, rfl, p, _, _, _, rfl, rfl, SqL.of hp, at1, _, rfl, _, rfl, ?_⟩
      refine iteF ⟨_, rfl, _, rfl, p, _, _, _, rfl, rfl, SqL.of hp, at1, _, rfl, _, rfl, q, _, _, _, rfl, rfl, hq, at1, rfl, _, rfl, ?_⟩
      exact iteNS rfl ⟨⟨_, rfl⟩, rfl⟩
    · rintro σ H2 ⟨_, rfl⟩
      exact k
theorem sc_law_order : FnScope ["row", "places", "level", "found", "at", "end"] ["row", "places", "level"] (defScope s__law_order) := ⟨rfl, rfl, rfl, by decide +kernel, rfl, by decide +kernel, by decide +kernel⟩
theorem ok_law_order {f : Addr} {fd : FuncData} (F : Fun K "_law_order" "_law_order" s__law_order f fd) (T : Blt mg) (hm : mg "_law_order" = some (.ref f)) (hk : PySem.W.keepIn K (.ref f) = true) (hb : Binds K fd ["row", "places", "level"] []) :
    ∀ n, FnOk P w K mg base CX0 n f fd ["row", "places", "level"] (spOrdN K n)
  | 0 => ⟨fun _ _ _ _ h => h.elim, fun _ _ _ _ _ _ _ _ _ _ _ _ _ h => h.elim⟩
  | n + 1 => by
    have D : Def P w K mg base "_law_order" n ["row", "places", "level"] (spOrdN K n) := ⟨f, fd, ok_law_order F T hm hk hb n, hm, hk, hb⟩
    refine F.ok sc_law_order (fun vs H Q E h => ?_) (fun cdv A outer s H vs Q E hr h => ?_)
    · obtain ⟨r, q, row, pl, l, rfl, _⟩ := h
      rfl
    · obtain ⟨r, q, row, pl, l, rfl, hR, hq, h9, hpl, hlen, hln, k⟩ := h
      refine ⟨_, pss_cons (ps_set (i := 3) sc_law_order.nd rfl (Or.inl rfl) (pe_lst pa_nil))
        (pss_cons (ps_set (i := 4) sc_law_order.nd rfl (Or.inl rfl) pe_int)
        (pss_cons (ps_while PassesOwn.never (pt_cmpR op_lt (pv 4) (pe_callB call_len_seq (by rfl) T.len PySem.boot_len (pa_cons (pv 1) pa_nil)) (nomark _))
          (pss_cons (ps_set (i := 5) sc_law_order.nd rfl (Or.inl rfl) (pv 4))
          (pss_cons (ps_while PassesOwn.never (pw_and (pt_cmpR op_lt (pv 5) (pe_callB call_len_seq (by rfl) T.len PySem.boot_len (pa_cons (pv 1) pa_nil)) (nomark _)) (pw_and1 (pt_cmpR op_gt (pe_ix ix_list (pv 0) (pe_ix ix_list (pv 1) (pv 5) (fun _ _ => rfl)) (fun _ _ => rfl)) (pv 2) (nomark _)))).pt
            (pss_one (ps_set (i := 5) sc_law_order.nd rfl (Or.inl rfl) (pe_op op_add (pv 5) pe_int))))
          (pss_one (ps_if (pt_cmpR op_gt (pv 5) (pv 4) (nomark _))
            (pss_cons (ps_set (i := 3) sc_law_order.nd rfl (Or.inl rfl) (pe_op op_cat (pv 3) (pe_list_rev (pe_def D hr (pa_cons (pv 0) (pa_cons (pe_slice sl_list (pv 1) (po_some (pv 4)) (po_some (pv 5))) (pa_cons (pe_op op_add (pv 2) pe_int) pa_nil)))) (by rfl) T.list (by rfl) T.reversed rfl)))
            (pss_one (ps_set (i := 4) sc_law_order.nd rfl (Or.inl rfl) (pv 5))))
            (pss_cons (ps_expr (pe_bm PySem.F.plainAttrs_list PySem.F.slot_list_append PySem.F.type_list_append mt_append (pv 3) (pa_cons (pe_ix ix_list (pv 1) (pv 4) (fun _ _ => rfl)) pa_nil)))
            (pss_one (ps_set (i := 4) sc_law_order.nd rfl (Or.inl rfl) (pe_op op_add (pv 4) pe_int)))))))))
        (pss_one (ps_ret (pv 3))))), ?_⟩
      refine ⟨Nat.zero_le _, fun fo hfo => ?_⟩
      dsimp only [gName]
      -- the outer walk
      refine ⟨fun m σ H2 => ∃ (i : Nat) (fo : Addr) (done : List Nat) (v5 : Option V), σ = [some (.ref r), some (.ref q), some (.int l), some (.ref fo), some (.int (i : Int)), v5] ∧ m + i = pl.length ∧ Same H H2 ∧ H fo = none ∧
        H2 fo = some (.lst (vN done)) ∧ TM.ord (lvl row) n l pl = done ++ TM.ord (lvl row) n l (pl.drop i), ⟨pl.length, 0, fo, [], _, rfl, rfl, Same.upd0 hfo, hfo, upd_same, rfl⟩, ?_⟩
      rintro m σ H2 ⟨i, fo, done, v5, rfl, hmi, s2, nfo, hF, hord⟩
      have hdl : done.length ≤ 60 := by
        have e1 := congrArg List.length hord
        rw [(TM.ord_perm n l pl).length_eq, List.length_append] at e1
        omega
      refine ⟨_, rfl, _, rfl, q, _, rfl, .inl (s2.seq hq), _, _, rfl, rfl, _, rfl, ?_⟩
      rw [vN_len]
      refine bOf (fun h1 => ?_) (fun h1 => ?_)
      · have h1 : (i : Int) < (pl.length : Int) := of_decide_eq_true h1
        refine ⟨_, fun σ' H' h => h, ?_⟩
        refine ⟨_, rfl, ?_⟩
        dsimp only [gName]
        refine seq_mid (fun σ H3 => ∃ j : Nat, σ = [some (.ref r), some (.ref q), some (.int l), some (.ref fo), some (.int (i : Int)), some (.int (j : Int))] ∧ H3 = H2 ∧ i ≤ j ∧ j ≤ pl.length ∧ (∀ t x, i ≤ t → t < j → pl[t]? = some x → l < lvl row x) ∧ ∀ x, pl[j]? = some x → lvl row x ≤ l) ?_ ?_
        · intro D' _ _ _ kk
          refine ⟨fun m σ H3 => ∃ j : Nat, σ = [some (.ref r), some (.ref q), some (.int l), some (.ref fo), some (.int (i : Int)), some (.int (j : Int))] ∧ H3 = H2 ∧ m + j = pl.length ∧ i ≤ j ∧ (∀ t x, i ≤ t → t < j → pl[t]? = some x → l < lvl row x), ⟨pl.length - i, i, rfl, rfl, by omega, Nat.le_refl _, fun t x h1 h2 => by omega⟩, ?_⟩
          rintro m2 σ H3 ⟨j, rfl, rfl, hmj, hij, hall⟩
          refine ⟨_, rfl, _, rfl, q, _, rfl, .inl (s2.seq hq), _, _, rfl, rfl, _, rfl, ?_⟩
          rw [vN_len]
          refine bOf (fun h2 => ?_) (fun h2 => ?_)
          · have h2 : (j : Int) < (pl.length : Int) := of_decide_eq_true h2
            have hj : j < pl.length := by omega
            have hx : pl[j]? = some pl[j] := List.getElem?_eq_getElem hj
            refine ⟨_, rfl, _, rfl, _, rfl, q, _, _, _, rfl, rfl, s2.seq hq, vN_at hj, r, _, _, _, rfl, rfl, s2.seq hR, lvl_at (hpl _ (List.getElem_mem hj)), _, rfl, _, _, rfl, rfl, _, rfl, ?_⟩
            refine bOf (fun h3 => ?_) (fun h3 => ?_)
            · have h3 : l < lvl row pl[j] := of_decide_eq_true h3
              refine ⟨_, fun σ' H' h => h, _, rfl, _, _, rfl, rfl, ?_⟩
              refine ⟨m2 - 1, by omega, j + 1, by simp [gName], rfl, by omega, by omega, fun t x a1 a2 a3 => ?_⟩
              by_cases e : t = j
              · rw [e, hx] at a3; cases a3; exact h3
              · exact hall t x a1 (by omega) a3
            · have h3 : ¬ l < lvl row pl[j] := of_decide_eq_false h3
              exact kk _ _ ⟨j, rfl, rfl, hij, by omega, hall, fun x a => by rw [hx] at a; cases a; omega⟩
          · have h2 : ¬ (j : Int) < (pl.length : Int) := of_decide_eq_false h2
            exact kk _ _ ⟨j, rfl, rfl, hij, by omega, hall, fun x a => by rw [List.getElem?_eq_none (by omega)] at a; cases a⟩
        · rintro σ H3 ⟨j, rfl, rfl, hij, hjl, hall, hend⟩
          refine ⟨_, rfl, _, rfl, _, _, rfl, rfl, _, rfl, ?_⟩
          refine bOf (fun h2 => ?_) (fun h2 => ?_)
          · have h2 : (i : Int) < (j : Int) := of_decide_eq_true h2
            have hil : i < pl.length := by omega
            have hx := hall i pl[i] (Nat.le_refl _) (by omega) (List.getElem?_eq_getElem hil)
            have h9' := h9 pl[i]
            obtain ⟨n, rfl⟩ : ∃ n', n = n' + 1 := ⟨n - 1, by omega⟩
            have eo := ord_run (lv := lvl row) (n := n) (by omega) hall hend
            have hrl : ((pl.drop i).take (j - i)).length ≤ pl.length := by rw [List.length_take, List.length_drop]; omega
            have ecut : cutV (vN pl) (some (i : Int)) (some (j : Int)) = vN ((pl.drop i).take (j - i)) := by
              rw [vN_cut, Nat.min_eq_left hjl, Nat.min_eq_left (show i ≤ pl.length by omega)]
            refine ⟨_, rfl, _, rfl, _, rfl, _, rfl, _, rfl, _, rfl, _, rfl, q, _, rfl, s2.seq hq, fun cu hcu => ?_⟩
            rw [ecut]
            have s3 := Same.upd (o := .lst (vN ((pl.drop i).take (j - i)))) s2 hcu
            refine ⟨_, rfl, _, _, rfl, rfl, ?_⟩
            refine ⟨r, cu, row, (pl.drop i).take (j - i), l + 1, rfl, s3.seq hR, SqL.of upd_same, h9, fun p hp => hpl p (List.mem_of_mem_drop (List.mem_of_mem_take hp)), by omega, by omega, fun p H4 s4 np hp => ?_⟩
            refine ⟨p, _, rfl, SqL.of hp, fun rv hrv => ?_⟩
            rw [vN_rev]
            have n1 : rv ≠ p := fun e => by rw [e, hp] at hrv; cases hrv
            have hF4 : H4 fo = some (.lst (vN done)) := s4 _ _ (by rw [upd_ne (ne_of_none hF hcu)]; exact hF)
            have hF5 : upd H4 rv (.lst (vN (TM.ord (lvl row) n (l + 1) ((pl.drop i).take (j - i))).reverse)) fo = some (.lst (vN done)) := by rw [upd_ne (ne_of_none hF4 hrv)]; exact hF4
            have s5 := Same.upd (o := .lst (vN (TM.ord (lvl row) n (l + 1) ((pl.drop i).take (j - i))).reverse)) (Same.trans s3 s4) hrv
            have eol := (TM.ord_perm (lv := lvl row) n (l + 1) ((pl.drop i).take (j - i))).length_eq
            refine ⟨fo, rv, _, _, rfl, rfl, hF5, upd_same, le_line (by rw [vN_len, vN_len, List.length_reverse, eol]; omega), fun nf hnf => ?_⟩
            refine ⟨_, rfl, ?_⟩
            refine ⟨pl.length - j, by omega, j, nf, done ++ (TM.ord (lvl row) n (l + 1) ((pl.drop i).take (j - i))).reverse, some (.int (j : Int)), by simp [gName], by omega, Same.upd s5 hnf, s5.free hnf, by rw [upd_same, vN_app], ?_⟩
            rw [hord, eo, List.append_assoc]
          · have h2 : ¬ (i : Int) < (j : Int) := of_decide_eq_false h2
            obtain rfl : i = j := by omega
            have hil : i < pl.length := by omega
            have hx := hend pl[i] (List.getElem?_eq_getElem hil)
            refine ⟨_, rfl, .inl ⟨rfl, _, SqL.of hF⟩, _, rfl, _, rfl, q, _, _, _, rfl, rfl, s2.seq hq, vN_at hil, fo, _, _, rfl, rfl, hF, small1000 (by rw [vN_len]; omega), ?_⟩
            refine ⟨_, rfl, _, _, rfl, rfl, ?_⟩
            refine ⟨m - 1, by omega, i + 1, fo, done ++ [pl[i]], some (.int (i : Int)), by simp [gName], by omega, Same.updT s2 nfo, nfo, by rw [upd_same, vN_snoc], ?_⟩
            rw [hord, List.drop_eq_getElem_cons hil, ord_head hx]
            simp
      · have h1 : ¬ (i : Int) < (pl.length : Int) := of_decide_eq_false h1
        refine ⟨_, rfl, k fo H2 s2 nfo ?_⟩
        rw [hord, List.drop_eq_nil_of_le (by omega), TM.ord_nil, List.append_nil]
        exact hF
theorem sc_law_refused : FnScope ["row", "cuts", "told", "e"] ["row", "cuts"] (defScope s__law_refused) := ⟨rfl, rfl, rfl, by decide +kernel, rfl, by decide +kernel, by decide +kernel⟩
theorem ok_law_refused {f : Addr} {fd : FuncData} {C Dc Nc g : Addr} {gd : FuncData} (F : Fun K "_law_refused" "_law_refused" s__law_refused f fd) (T : Blt mg) (G : FnOk P w K mg base (CX1 P w) 2 g gd ["levels", "cuts"] (spNoLines K C)) (hm : mg "lines" = some (.ref g)) (hk : PySem.W.keepIn K (.ref g) = true) (hb : Binds K gd ["levels", "cuts"] [])
    (hC : mg "NoCut" = some (.ref C)) (hD : mg "TurnError" = some (.ref Dc)) (hN : mg "NoMark" = some (.ref Nc)) (hV : mg "ValueError" = none) (cC : ExcCls K C) (x1 : PySem.W.exmOne K (.ref C) (.ref Dc) = some true) (x2 : PySem.W.kitOne K (.ref C) (.type "ValueError") = some true) (x3 : PySem.W.kitOne K (.ref C) (.ref Nc) = some false) :
    FnOk P w K mg base CX0 3 f fd ["row", "cuts"] (spRefusedC K) := by
  refine F.ok sc_law_refused (fun vs H Q E h => ?_) (fun cdv A outer s H vs Q E hr h => ?_)
  · obtain ⟨a, c, row, cs, rfl, _⟩ := h
    rfl
  · obtain ⟨a, c, row, cs, rfl, hS, hS2, hno, k⟩ := h
    refine ⟨_, pss_cons (ps_set (i := 2) sc_law_refused.nd rfl (Or.inl rfl) pe_bl)
      (pss_cons (ps_try (i := 3) G hr (by rfl) hm hk hb (pa_cons (pv 0) (pa_cons (pv 1) pa_nil)) (by rfl) hD sc_law_refused.nd rfl rfl rfl rfl
        (fun ea => pss_one (ps_set (i := 2) sc_law_refused.nd rfl (Or.inl rfl) (pe_and (pe_callB call_isexc (by rfl) T.isinstance PyProof.Rows.boot_isinstance (pa_cons (pv 3) (pa_cons (pe_glob (v := .ref C) (by rfl) hC rfl) pa_nil)))
          (pe_and (pe_callB call_isexc (by rfl) T.isinstance PyProof.Rows.boot_isinstance (pa_cons (pv 3) (pa_cons (pe_bltn (v := .ty "ValueError") (by rfl) hV (show bootBuiltins "ValueError" = some (.type "ValueError") from rfl) rfl) pa_nil)))
          (pe_one (pe_not (pe_callB call_isexc (by rfl) T.isinstance PyProof.Rows.boot_isinstance (pa_cons (pv 3) (pa_cons (pe_glob (v := .ref Nc) (by rfl) hN rfl) pa_nil))))))))) (by decide) (by decide) rfl rfl rfl)
      (pss_one (ps_ret (pv 2)))), ?_⟩
    refine ⟨_, rfl, _, rfl, a, c, row, cs, rfl, hS, hS2, hno, C, rfl, x1, fun ea hea => ?_⟩
    refine ⟨_, rfl, ea, C, _, true, rfl, upd_same, cC, .inl ⟨C, rfl, kit_self K _⟩, _, rfl, iteT ?_⟩
    refine ⟨_, rfl, ea, C, _, true, rfl, upd_same, cC, .inr ⟨_, rfl, x2⟩, _, rfl, iteT ?_⟩
    refine ⟨_, rfl, ea, C, _, false, rfl, upd_same, cC, .inl ⟨Nc, rfl, x3⟩, _, rfl, ?_⟩
    exact ⟨_, rfl, k _ (Same.upd0 hea)⟩
theorem sc_law_cuts : FnScope ["cell", "size", "found", "place", "way", "at", "odd"] ["cell", "size"] (defScope s__law_cuts) := ⟨rfl, rfl, rfl, by decide +kernel, rfl, by decide +kernel, by decide +kernel⟩
theorem ok_law_cuts {f : Addr} {fd : FuncData} (F : Fun K "_law_cuts" "_law_cuts" s__law_cuts f fd) (T : Blt mg) (T2 : BltB mg) (D1 : Def P w K mg base "_law_mix" 1 ["cell", "k"] spMix) : FnOk P w K mg base CX0 2 f fd ["cell", "size"] spCuts := by
  refine F.ok sc_law_cuts (fun vs H Q E h => ?_) (fun cdv A outer s H vs Q E hr h => ?_)
  · obtain ⟨c, n, rfl, _⟩ := h
    rfl
  · obtain ⟨c, n, rfl, n0, n60, k⟩ := h
    refine ⟨_, pss_cons (ps_set (i := 2) sc_law_cuts.nd rfl (Or.inl rfl) (pe_lst pa_nil))
      (pss_cons (ps_for PassesOwn.never rfl (pi_range2 rfl T.range (pa_cons pe_int (pa_cons (pv 1) pa_nil))) (pg_name (i := 3) sc_law_cuts.nd rfl (Or.inl rfl))
        (pss_one (ps_if (pw_and (pt_cmpR op_eq (pe_op op_mod (pe_op op_fdiv (pe_def D1 hr (pa_cons (pv 0) (pa_cons (pv 3) pa_nil))) pe_int) (pe_callB (call_max2 rfl) (by rfl) T2.max PyProof.Rows.boot_max (pa_cons pe_int (pa_cons (pe_op op_fdiv (pv 1) pe_int) pa_nil)))) pe_int (nomark _))
            (pw_and1 (pt_cmpR op_lt (pe_callB call_len_seq (by rfl) T.len PySem.boot_len (pa_cons (pv 2) pa_nil)) pe_int (nomark _)))).pt
          (pss_one (ps_expr (pe_bm PySem.F.plainAttrs_list PySem.F.slot_list_append PySem.F.type_list_append mt_append (pv 2) (pa_cons (pv 3) pa_nil)))) pss_nil)))
      (pss_cons (ps_set (i := 4) sc_law_cuts.nd rfl (Or.inl rfl) (pe_op op_mod (pe_op op_fdiv (pe_def D1 hr (pa_cons (pv 0) (pa_cons pe_int pa_nil))) pe_int) pe_int))
      (pss_cons (ps_set (i := 5) sc_law_cuts.nd rfl (Or.inl rfl) (pe_op op_mod (pe_op op_fdiv (pe_def D1 hr (pa_cons (pv 0) (pa_cons pe_int pa_nil))) pe_int) (pe_op op_add (pe_callB call_len_seq (by rfl) T.len PySem.boot_len (pa_cons (pv 2) pa_nil)) pe_int)))
      (pss_cons (ps_if (pt_cmpR op_lt (pv 4) pe_int (nomark _))
        (pss_cons (ps_set (i := 6) sc_law_cuts.nd rfl (Or.inl rfl) (pe_ix ix_list (pe_lst (pa_cons pe_int (pa_cons (pe_op op_sub (pe_un un_neg pe_int) (pe_op op_mod (pv 0) (pe_op op_pow pe_int pe_int))) (pa_cons (pv 1) (pa_cons (pe_op op_add (pe_op op_add (pv 1) pe_int) (pe_op op_mod (pv 0) (pe_op op_pow pe_int pe_int))) pa_nil))))) (pv 4) (fun _ _ => rfl)))
        (pss_one (ps_set (i := 2) sc_law_cuts.nd rfl (Or.inl rfl) (pe_op op_cat (pe_op op_cat (pe_slice sl_list (pv 2) po_none (po_some (pv 5))) (pe_lst (pa_cons (pv 6) pa_nil))) (pe_slice sl_list (pv 2) (po_some (pv 5)) po_none))))) pss_nil)
      (pss_cons (ps_if (pw_and (pt_cmpR op_eq (pv 4) pe_int (nomark _)) (pw_and1 (pt_cmpR op_lt (pv 5) (pe_callB call_len_seq (by rfl) T.len PySem.boot_len (pa_cons (pv 2) pa_nil)) (nomark _)))).pt
        (pss_one (ps_set (i := 2) sc_law_cuts.nd rfl (Or.inl rfl) (pe_op op_cat (pe_op op_cat (pe_slice sl_list (pv 2) po_none (po_some (pv 5))) (pe_lst (pa_cons (pe_ix ix_list (pv 2) (pv 5) (fun _ _ => rfl)) pa_nil))) (pe_slice sl_list (pv 2) (po_some (pv 5)) po_none)))) pss_nil)
      (pss_cons (ps_if (pt_cmpR op_eq (pv 4) pe_int (nomark _)) (pss_one (ps_set (i := 2) sc_law_cuts.nd rfl (Or.inl rfl) (pe_list_rev (pv 2) (by rfl) T.list (by rfl) T.reversed rfl))) pss_nil)
      (pss_one (ps_ret (pv 2))))))))), ?_⟩
    have p20 : (0 : Int) < (10 : Int) ^ (20 : Int).toNat := by decide
    refine ⟨Nat.zero_le _, fun fA nF => ?_⟩
    refine ⟨_, rfl, 1, n, rfl, ⟨by decide, by decide, by omega, by omega⟩, ?_⟩
    -- a few places
    refine for_range (n := (n - 1).toNat) (fun i σ H2 => ∃ (cs : List Int) (v3 : Option V), σ = [some (.int c), some (.int n), some (.ref fA), v3, none, none, none] ∧ Same H H2 ∧ H2 fA = some (.lst (vI cs)) ∧ cs.length ≤ 5) ⟨[], _, rfl, Same.upd0 nF, upd_same, by simp⟩ ?_ ?_
    · rintro i σ H2 hi ⟨cs, v3, rfl, s2, hF, hl⟩
      dsimp only [gName]
      refine ⟨_, rfl, _, rfl, _, _, rfl, fun m => ?_⟩
      refine ⟨_, _, rfl, rfl, ⟨by decide, by decide⟩, _, rfl, _, _, rfl, rfl, ⟨by decide, by decide⟩, _, _, rfl, _, _, rfl, rfl, (by show (0 : Int) < if _ > _ then _ else _; split <;> omega), rfl, _, rfl, ?_⟩
      refine bOf (fun _ => ?_) (fun _ => ?_)
      · refine ⟨_, rfl, fA, _, rfl, .inl (SqL.of hF), _, _, rfl, rfl, _, rfl, ?_⟩
        rw [ints_len]
        refine bOf (fun h1 => ?_) (fun _ => ?_)
        · have h1 : (cs.length : Int) < 5 := of_decide_eq_true h1
          refine ⟨_, rfl, .inl ⟨rfl, _, SqL.of hF⟩, _, rfl, fA, _, _, rfl, rfl, hF, small1000 (by rw [ints_len]; omega), ?_⟩
          exact ⟨cs ++ [1 + (i : Int)], _, rfl, Same.updT s2 nF, by rw [upd_same]; simp, by simp; omega⟩
        · exact ⟨cs, _, rfl, s2, hF, hl⟩
      · exact ⟨cs, _, rfl, s2, hF, hl⟩
    rintro σ H2 ⟨cs, v3, rfl, s2, hF, hl⟩
    -- way, at
    refine ⟨_, rfl, _, _, rfl, fun m1 => ?_⟩
    refine ⟨_, _, rfl, rfl, ⟨by decide, by decide⟩, _, _, rfl, rfl, (by show (0 : Int) < 12; decide), ?_⟩
    refine ⟨_, rfl, _, _, rfl, fun m2 => ?_⟩
    refine ⟨_, _, rfl, rfl, ⟨by decide, by decide⟩, _, rfl, fA, _, rfl, .inl (SqL.of hF), _, _, rfl, rfl, _, _, rfl, rfl, (by rw [ints_len]; show (0 : Int) < (cs.length : Int) + 1; omega), ?_⟩
    rw [ints_len]
    have w0 : 0 ≤ m1 / 7 % 12 := Int.emod_nonneg _ (by decide)
    have j0 : 0 ≤ m2 / 7 % ((cs.length : Int) + 1) := Int.emod_nonneg _ (by omega)
    dsimp only [gName]
    generalize m1 / 7 % 12 = W at w0 ⊢
    generalize m2 / 7 % ((cs.length : Int) + 1) = J at j0 ⊢
    refine seq_mid (fun σ H2 => ∃ (fA : Addr) (cs : List Int) (v3 v6 : Option V), σ = [some (.int c), some (.int n), some (.ref fA), v3, some (.int W), some (.int J), v6] ∧ Same H H2 ∧ H fA = none ∧ H2 fA = some (.lst (vI cs)) ∧ cs.length ≤ 12) ?_ ?_
    · intro D' _ _ _ kk
      refine ⟨_, rfl, _, _, rfl, rfl, _, rfl, ?_⟩
      refine bOf (fun h1 => ?_) (fun _ => ?_)
      · have h1 : W < 4 := of_decide_eq_true h1
        refine ⟨_, rfl, _, rfl, _, _, rfl, rfl, ⟨by decide, by decide, by decide⟩, _, _, rfl, rfl, p20, _, _, rfl, rfl, _, rfl, _, rfl, _, _, rfl, rfl, _, rfl, _, _, rfl, rfl, ⟨by decide, by decide, by decide⟩, _, _, rfl, rfl, p20, _, _, rfl, rfl, (by show 4 ≤ sizeLine; decide), fun lA nl => ?_⟩
        obtain ⟨x, hx⟩ : ∃ x : Int, atI [V.int 0, V.int (-1 - c % (10 : Int) ^ (20 : Int).toNat), V.int n, V.int (n + 1 + c % (10 : Int) ^ (20 : Int).toNat)] W = some (V.int x) := by
          have : W = 0 ∨ W = 1 ∨ W = 2 ∨ W = 3 := by omega
          rcases this with e | e | e | e <;> rw [e] <;> exact ⟨_, rfl⟩
        refine ⟨_, rfl, lA, _, _, _, rfl, rfl, SqL.of upd_same, hx, ?_⟩
        have s3 := Same.upd (o := .lst [V.int 0, V.int (-1 - c % (10 : Int) ^ (20 : Int).toNat), V.int n, V.int (n + 1 + c % (10 : Int) ^ (20 : Int).toNat)]) s2 nl
        have f3 := Same.upd0 (o := .lst [V.int 0, V.int (-1 - c % (10 : Int) ^ (20 : Int).toNat), V.int n, V.int (n + 1 + c % (10 : Int) ^ (20 : Int).toNat)]) nl _ _ hF
        generalize upd H2 lA (.lst [V.int 0, V.int (-1 - c % (10 : Int) ^ (20 : Int).toNat), V.int n, V.int (n + 1 + c % (10 : Int) ^ (20 : Int).toNat)]) = H3 at s3 f3 ⊢
        dsimp only [gName]
        obtain ⟨ea, e1, la⟩ := cut_some cs none (some J)
        obtain ⟨eb, e2, lb⟩ := cut_some cs (some J) none
        refine ⟨_, rfl, _, rfl, _, rfl, fA, _, rfl, SqL.of f3, fun y1 n1 => ?_⟩
        rw [e1]
        have s4 := Same.upd (o := .lst (vI ea)) s3 n1
        have f4 := Same.upd0 (o := .lst (vI ea)) n1 _ _ f3
        have g4 : upd H3 y1 (.lst (vI ea)) y1 = some (.lst (vI ea)) := upd_same
        generalize upd H3 y1 (.lst (vI ea)) = H4 at s4 f4 g4 ⊢
        refine ⟨_, rfl, (by show 1 ≤ sizeLine; decide), fun y2 n2 => ?_⟩
        have s5 := Same.upd (o := .lst [V.int x]) s4 n2
        have q5 := Same.upd0 (o := .lst [V.int x]) n2
        have g5 : upd H4 y2 (.lst [V.int x]) y2 = some (.lst (vI [x])) := upd_same
        have a5 := q5 _ _ g4
        have f5 := q5 _ _ f4
        generalize upd H4 y2 (.lst [V.int x]) = H5 at s5 a5 f5 g5 ⊢
        refine ⟨y1, y2, _, _, rfl, rfl, a5, g5, le_line (by rw [ints_len, ints_len]; simp; omega), fun y3 n3 => ?_⟩
        have s6 := Same.upd (o := .lst (vI ea ++ vI [x])) s5 n3
        have f6 := Same.upd0 (o := .lst (vI ea ++ vI [x])) n3 _ _ f5
        have g6 : upd H5 y3 (.lst (vI ea ++ vI [x])) y3 = some (.lst (vI ea ++ vI [x])) := upd_same
        generalize upd H5 y3 (.lst (vI ea ++ vI [x])) = H6 at s6 f6 g6 ⊢
        refine ⟨_, rfl, _, rfl, _, rfl, fA, _, rfl, SqL.of f6, fun y4 n4 => ?_⟩
        rw [e2]
        have s7 := Same.upd (o := .lst (vI eb)) s6 n4
        have g7 := Same.upd0 (o := .lst (vI eb)) n4 _ _ g6
        have b7 : upd H6 y4 (.lst (vI eb)) y4 = some (.lst (vI eb)) := upd_same
        generalize upd H6 y4 (.lst (vI eb)) = H7 at s7 g7 b7 ⊢
        refine ⟨y3, y4, _, _, rfl, rfl, g7, b7, le_line (by rw [List.length_append, ints_len, ints_len, ints_len]; simp; omega), fun r nr => ?_⟩
        exact kk _ _ ⟨r, ea ++ [x] ++ eb, _, _, rfl, Same.upd s7 nr, s7.free nr, by rw [upd_same]; simp, by simp; omega⟩
      · exact kk _ _ ⟨fA, cs, _, _, rfl, s2, nF, hF, by omega⟩
    clear s2 hF hl nF cs fA
    rintro σ H2 ⟨fA, cs, v3, v6, rfl, s2, nF, hF, hl⟩
    refine seq_mid (fun σ H2 => ∃ (fA : Addr) (cs : List Int) (v3 v6 : Option V), σ = [some (.int c), some (.int n), some (.ref fA), v3, some (.int W), some (.int J), v6] ∧ Same H H2 ∧ H fA = none ∧ H2 fA = some (.lst (vI cs)) ∧ cs.length ≤ 30) ?_ ?_
    · intro D' _ _ _ kk
      refine ⟨_, rfl, rfl, _, rfl, ?_⟩
      refine bOf (fun _ => ?_) (fun _ => ?_)
      · refine ⟨_, rfl, _, rfl, fA, _, rfl, .inl (SqL.of hF), _, _, rfl, rfl, _, rfl, ?_⟩
        rw [ints_len]
        refine bOf (fun h1 => ?_) (fun _ => ?_)
        · have h1 : J < (cs.length : Int) := of_decide_eq_true h1
          obtain ⟨ea, e1, la⟩ := cut_some cs none (some J)
          obtain ⟨eb, e2, lb⟩ := cut_some cs (some J) none
          refine ⟨_, rfl, _, rfl, _, rfl, fA, _, rfl, SqL.of hF, fun y1 n1 => ?_⟩
          rw [e1]
          have s4 := Same.upd (o := .lst (vI ea)) s2 n1
          have f4 := Same.upd0 (o := .lst (vI ea)) n1 _ _ hF
          have g4 : upd H2 y1 (.lst (vI ea)) y1 = some (.lst (vI ea)) := upd_same
          generalize upd H2 y1 (.lst (vI ea)) = H4 at s4 f4 g4 ⊢
          refine ⟨_, rfl, _, rfl, fA, _, _, _, rfl, rfl, SqL.of f4, ints_at (l := cs) (n := J) j0 h1, (by show 1 ≤ sizeLine; decide), fun y2 n2 => ?_⟩
          generalize cs.getD J.toNat 0 = x at n2 ⊢
          have s5 := Same.upd (o := .lst [V.int x]) s4 n2
          have q5 := Same.upd0 (o := .lst [V.int x]) n2
          have g5 : upd H4 y2 (.lst [V.int x]) y2 = some (.lst (vI [x])) := upd_same
          have a5 := q5 _ _ g4
          have f5 := q5 _ _ f4
          generalize upd H4 y2 (.lst [V.int x]) = H5 at s5 a5 f5 g5 ⊢
          refine ⟨y1, y2, _, _, rfl, rfl, a5, g5, le_line (by rw [ints_len, ints_len]; simp; omega), fun y3 n3 => ?_⟩
          have s6 := Same.upd (o := .lst (vI ea ++ vI [x])) s5 n3
          have f6 := Same.upd0 (o := .lst (vI ea ++ vI [x])) n3 _ _ f5
          have g6 : upd H5 y3 (.lst (vI ea ++ vI [x])) y3 = some (.lst (vI ea ++ vI [x])) := upd_same
          generalize upd H5 y3 (.lst (vI ea ++ vI [x])) = H6 at s6 f6 g6 ⊢
          refine ⟨_, rfl, _, rfl, _, rfl, fA, _, rfl, SqL.of f6, fun y4 n4 => ?_⟩
          rw [e2]
          have s7 := Same.upd (o := .lst (vI eb)) s6 n4
          have g7 := Same.upd0 (o := .lst (vI eb)) n4 _ _ g6
          have b7 : upd H6 y4 (.lst (vI eb)) y4 = some (.lst (vI eb)) := upd_same
          generalize upd H6 y4 (.lst (vI eb)) = H7 at s7 g7 b7 ⊢
          refine ⟨y3, y4, _, _, rfl, rfl, g7, b7, le_line (by rw [List.length_append, ints_len, ints_len, ints_len]; simp; omega), fun r nr => ?_⟩
          exact kk _ _ ⟨r, ea ++ [x] ++ eb, _, _, rfl, Same.upd s7 nr, s7.free nr, by rw [upd_same]; simp, by simp; omega⟩
        · exact kk _ _ ⟨fA, cs, _, _, rfl, s2, nF, hF, by omega⟩
      · exact kk _ _ ⟨fA, cs, _, _, rfl, s2, nF, hF, by omega⟩
    clear s2 hF hl nF cs fA
    rintro σ H2 ⟨fA, cs, v3, v6, rfl, s2, nF, hF, hl⟩
    refine ⟨_, rfl, rfl, _, rfl, ?_⟩
    refine bOf (fun _ => ?_) (fun _ => ?_)
    · refine ⟨_, rfl, fA, _, rfl, SqL.of hF, fun r nr => ?_⟩
      exact ⟨_, rfl, k cs.reverse r _ (Same.upd s2 nr) (s2.free nr) (by rw [upd_same]; simp) (by rw [List.length_reverse]; exact hl)⟩
    · exact ⟨_, rfl, k cs fA H2 s2 nF hF hl⟩
def scx_law : Scope := match s_law with
  | .FunctionDef _ _ (_ :: _ :: _ :: _ :: .Assign _ (.BoolOp _ (_ :: .Call _ (.ListComp _ _ sc _ :: _) _ _ :: _) _) _ :: _) _ _ _ _ _ _ _ => sc
  | _ => { kind := .function, names := [], isGenerator := false, isCoroutine := false }
theorem sc_law : FnScope ["script", "cell", "row", "cuts", "handed", "good", "found", "begins", "ends", "line", "begin", "end", "together", "again"] ["script"] (defScope s_law) := ⟨rfl, rfl, rfl, by decide +kernel, rfl, by decide +kernel, by decide +kernel⟩
theorem scc_law : CompSc (defScope s_law) ["script", "cell", "row", "cuts", "handed", "good", "found", "begins", "ends", "line", "begin", "end", "together", "again"] ["cut"] ["row"] [2] scx_law :=
  ⟨by decide +kernel, by decide +kernel, by decide +kernel, by decide +kernel, by decide +kernel, by decide +kernel, by decide +kernel⟩
theorem ndc_law : (["cut", "row"] : List Str).Nodup := by decide +kernel
theorem ok_law {f : Addr} {fd : FuncData} (F : Fun K "law" "law" s_law f fd) (T : Blt mg) (T2 : BltB mg) (D1 : Def P w K mg base "_law_cell_at" 1 ["script", "k"] (spCell K)) (D2 : Def P w K mg base "_law_row" 3 ["script", "start", "size", "way"] (spRow K))
    (D3 : Def P w K mg base "_law_size" 1 ["cell"] spSize) (D4 : Def P w K mg base "_law_order" 10 ["row", "places", "level"] (spOrdN K 10)) (D5 : Def P w K mg base "lines" 20 ["levels", "cuts"] (spLines K)) (D6 : Def P w K mg base "_law_cuts" 2 ["cell", "size"] spCuts)
    (D7 : Def P w K mg base "_law_refused" 3 ["row", "cuts"] (spRefusedC K)) (D8 : Def P w K mg base "_law_list" 2 ["found", "due"] (spList K)) : FnOk P w K mg base CX0 30 f fd ["script"] (spLaw K) := by
  refine F.ok sc_law (fun vs H Q E h => ?_) (fun cdv A outer s H vs Q E hr h => ?_)
  · obtain ⟨a, ns, rfl, _⟩ := h
    rfl
  · obtain ⟨a, ns, rfl, hS, hlen, k⟩ := h
    have hu : (A.deeper (PyProof.Rows.envOfC "law" (defScope s_law) s.heap.objs.size f cdv)).units < cLine := hr.units0
    have hu1 : (A.deeper (PyProof.Rows.envOfC "law" (defScope s_law) s.heap.objs.size f cdv)).units + 1 < cLine := by have := hr.units; omega
    have hr1 : Room 1 _ := hr.mono (by decide)
    have hr2 : Room 2 _ := hr.mono (by decide)
    have hr3 : Room 3 _ := hr.mono (by decide)
    have hr10 : Room 10 _ := hr.mono (by decide)
    have hr20 : Room 20 _ := hr.mono (by decide)
    refine ⟨_, pss_cons (ps_set (i := 1) sc_law.nd rfl (Or.inl rfl) (pe_def D1 hr1 (pa_cons (pv 0) (pa_cons pe_int pa_nil))))
      (pss_cons (ps_set (i := 2) sc_law.nd rfl (Or.inr rfl) (pe_def D2 hr3 (pa_cons (pv 0) (pa_cons pe_int (pa_cons (pe_def D3 hr1 (pa_cons (pv 1) pa_nil)) (pa_cons (pe_op op_mod (pe_def D1 hr1 (pa_cons (pv 0) (pa_cons pe_int pa_nil))) pe_int) pa_nil))))))
      (pss_cons (ps_set (i := 3) sc_law.nd rfl (Or.inl rfl) (pe_def D6 hr2 (pa_cons (pe_def D1 hr1 (pa_cons (pv 0) (pa_cons pe_int pa_nil))) (pa_cons (pe_callB call_len_seq (by rfl) T.len PySem.boot_len (pa_cons (pv 2) pa_nil)) pa_nil))))
      (pss_cons (ps_set (i := 4) sc_law.nd rfl (Or.inl rfl) (pe_lst (pa_cons (pe_callTy call_list_of (by rfl) T.list PyProof.Rows.boot_list (pa_cons (pv 2) pa_nil)) (pa_cons (pe_callTy call_list_of (by rfl) T.list PyProof.Rows.boot_list (pa_cons (pv 3) pa_nil)) pa_nil))))
      (pss_cons (ps_set (i := 5) sc_law.nd rfl (Or.inl rfl) (pe_and (pe_cmpR (op_eqI hu) (pv 3) (pe_callB (call_sorted_setI rfl) (by rfl) T2.sorted PyProof.Rows.boot_sorted (pa_cons (pe_callTy (call_setI rfl) (by rfl) T2.set PyProof.Rows.boot_set (pa_cons (pv 3) pa_nil)) pa_nil)) (nomark _))
        (pe_one (pe_callB (X := (cxOf CX0 P w K mg base ["script", "cell", "row", "cuts", "handed", "good", "found", "begins", "ends", "line", "begin", "end", "together", "again"] "law" (defScope s_law) f cdv A outer s H E).nox) (call_all rfl) (by rfl) T2.all PyProof.Rows.boot_all (pa_cons (pe_comp (te := tChain (rI0 fun i j => .bl (decide (i < j))) (rI0 fun i j => .bl (decide (i < j))) (tC (.int 0)) (tVar 0) (tCB (fun xs H Q => ∃ p ys, xs = [V.ref p] ∧ (SqL K H p ys ∨ SqT K H p ys) ∧ Q (V.int ys.length) H) (tCons (tVar 1) tNil))) scc_law rfl rfl rfl (pi_list (pv 3)) (fun _ _ _ _ _ _ => pg_name (i := 0) ndc_law rfl (Or.inl rfl))
          (fun _ _ _ _ _ _ => pe_chain op_lt op_lt pe_int (pv 0) (pe_callB call_len_seq (by rfl) T.len PySem.boot_len (pa_cons (pv 1) pa_nil)))) pa_nil)))))
      (pss_cons (ps_if (pt_not (pt_val (pv 5))) (pss_one (ps_ret (pe_and (pe_def D7 hr3 (pa_cons (pe_ix ix_list (pv 4) pe_int (fun _ _ => rfl)) (pa_cons (pe_ix ix_list (pv 4) pe_int (fun _ _ => rfl)) pa_nil)))
        (pe_one (pe_cmpR (op_eqLL hu1) (pv 4) (pe_lst (pa_cons (pv 2) (pa_cons (pv 3) pa_nil))) (nomark _)))))) pss_nil)
      (pss_cons (ps_set (i := 6) sc_law.nd rfl (Or.inl rfl) (pe_def D5 hr20 (pa_cons (pe_ix ix_list (pv 4) pe_int (fun _ _ => rfl)) (pa_cons (pe_ix ix_list (pv 4) pe_int (fun _ _ => rfl)) pa_nil))))
      (pss_cons (ps_set (i := 7) sc_law.nd rfl (Or.inl rfl) (pe_op op_cat (pe_lst (pa_cons pe_int pa_nil)) (pv 3)))
      (pss_cons (ps_set (i := 8) sc_law.nd rfl (Or.inl rfl) (pe_op op_cat (pv 3) (pe_lst (pa_cons (pe_callB call_len_seq (by rfl) T.len PySem.boot_len (pa_cons (pv 2) pa_nil)) pa_nil))))
      (pss_cons (ps_if (pw_or (pt_not (pt_val (pe_callB call_isinst (by rfl) T.isinstance PyProof.Rows.boot_isinstance (pa_cons (pv 6) (pa_cons (pe_bltn (v := .ty "list") (by rfl) T.list PyProof.Rows.boot_list rfl) pa_nil)))))
        (pw_or (pt_cmpR op_ne (pe_callB call_len_seq (by rfl) T.len PySem.boot_len (pa_cons (pv 6) pa_nil)) (pe_callB call_len_seq (by rfl) T.len PySem.boot_len (pa_cons (pv 8) pa_nil)) (nomark _))
        (pw_or1 (pt_cmpR (op_neLL hu1) (pv 4) (pe_lst (pa_cons (pv 2) (pa_cons (pv 3) pa_nil))) (nomark _))))).pt (pss_one (ps_ret pe_bl)) pss_nil)
      (pss_cons (ps_for PassesOwn.never rfl (pi_zip3 (by rfl) T.zip (pa_cons (pv 6) (pa_cons (pv 7) (pa_cons (pv 8) pa_nil)))) (pg_tup rfl (pgs_cons (pg_name (i := 9) sc_law.nd rfl (Or.inl rfl)) (pgs_cons (pg_name (i := 10) sc_law.nd rfl (Or.inl rfl)) (pgs_cons (pg_name (i := 11) sc_law.nd rfl (Or.inl rfl)) pgs_nil))))
        (pss_one (ps_if (pt_not (pt_val (pe_def D8 hr2 (pa_cons (pv 9) (pa_cons (pe_def D4 hr10 (pa_cons (pv 2) (pa_cons (pe_callTy (call_list_rng rfl) (by rfl) T.list PyProof.Rows.boot_list (pa_cons (pe_callTy call_range2 (by rfl) T.range PyProof.Rows.boot_range (pa_cons (pv 10) (pa_cons (pv 11) pa_nil))) pa_nil)) (pa_cons pe_int pa_nil)))) pa_nil))))) (pss_one (ps_ret pe_bl)) pss_nil)))
      (pss_cons (ps_set (i := 12) sc_law.nd rfl (Or.inl rfl) (pe_lst pa_nil))
      (pss_cons (ps_for PassesOwn.never rfl (pi_list (pv 6)) (pg_name (i := 9) sc_law.nd rfl (Or.inl rfl)) (pss_one (ps_set (i := 12) sc_law.nd rfl (Or.inl rfl) (pe_op op_cat (pv 12) (pv 9)))))
      (pss_cons (ps_if (pt_cmpR (op_neI hu) (pe_callB call_sorted (by rfl) T2.sorted PyProof.Rows.boot_sorted (pa_cons (pv 12) pa_nil)) (pe_callTy (call_list_rng rfl) (by rfl) T.list PyProof.Rows.boot_list (pa_cons (pe_callTy call_range1 (by rfl) T.range PyProof.Rows.boot_range (pa_cons (pe_callB call_len_seq (by rfl) T.len PySem.boot_len (pa_cons (pv 2) pa_nil)) pa_nil)) pa_nil)) (nomark _)) (pss_one (ps_ret pe_bl)) pss_nil)
      (pss_cons (ps_expr (pe_bm PySem.F.plainAttrs_list PySem.F.slot_list_append PySem.F.type_list_append mt_append (pe_ix ix_list (pv 6) pe_int (fun _ _ => rfl)) (pa_cons pe_int pa_nil)))
      (pss_cons (ps_set (i := 13) sc_law.nd rfl (Or.inl rfl) (pe_def D5 hr20 (pa_cons (pv 2) (pa_cons (pv 3) pa_nil))))
      (pss_one (ps_ret (pe_and (pe_cmpR (op_eqLL hu1) (pe_slice sl_list (pv 13) (po_some pe_int) po_none) (pe_slice sl_list (pv 6) (po_some pe_int) po_none) (nomark _))
        (pe_one (pe_def D8 hr2 (pa_cons (pe_ix ix_list (pv 13) pe_int (fun _ _ => rfl)) (pa_cons (pe_def D4 hr10 (pa_cons (pv 2) (pa_cons (pe_callTy (call_list_rng rfl) (by rfl) T.list PyProof.Rows.boot_list (pa_cons (pe_callTy call_range1 (by rfl) T.range PyProof.Rows.boot_range (pa_cons (pe_ix ix_list (pv 8) pe_int (fun _ _ => rfl)) pa_nil)) pa_nil)) (pa_cons pe_int pa_nil)))) pa_nil)))))))))))))))))))))), ?_⟩
    -- cell, row
    refine ⟨_, rfl, a, ns, 0, rfl, hS, Int.le_refl _, ?_⟩
    refine ⟨_, rfl, _, rfl, _, rfl, fun n n0 n60 => ?_⟩
    refine ⟨_, rfl, a, ns, 1, rfl, hS, by decide, _, _, rfl, rfl, (by show (0 : Int) < 3; decide), ?_⟩
    refine ⟨a, ns, 3, n, _, rfl, hS, by decide, n0, n60, fun row rp H1 hR _ s1 nrp hrp => ?_⟩
    have hR60 := hR.len
    have hS1 := s1.seq hS
    -- cuts
    refine ⟨_, rfl, a, ns, 2, rfl, hS1, by decide, _, rfl, rp, _, rfl, .inl (SqL.of hrp), _, _, rfl, by omega, by rw [ints_len]; omega, fun cs cp H2 s2 ncp hcp hcl => ?_⟩
    have r2 := s2 _ _ hrp
    dsimp only [gName]
    -- handed
    refine ⟨_, rfl, rp, _, rfl, .inl (SqL.of r2), fun h0 nh0 => ?_⟩
    have q3 := Same.upd0 (o := .lst (vI row)) nh0
    have a3 : upd H2 h0 (.lst (vI row)) h0 = some (.lst (vI row)) := upd_same
    have r3 := q3 _ _ r2
    have c3 := q3 _ _ hcp
    generalize upd H2 h0 (.lst (vI row)) = H3 at a3 r3 c3 ⊢
    clear q3
    refine ⟨_, rfl, cp, _, rfl, .inl (SqL.of c3), fun h1 nh1 => ?_⟩
    have q4 := Same.upd0 (o := .lst (vI cs)) nh1
    have b4 : upd H3 h1 (.lst (vI cs)) h1 = some (.lst (vI cs)) := upd_same
    have a4 := q4 _ _ a3
    have r4 := q4 _ _ r3
    have c4 := q4 _ _ c3
    generalize upd H3 h1 (.lst (vI cs)) = H4 at b4 a4 r4 c4 ⊢
    clear q4
    refine ⟨(by show 2 ≤ sizeLine; decide), fun hA nhA => ?_⟩
    have q5 := Same.upd0 (o := .lst [V.ref h0, V.ref h1]) nhA
    have e5 : upd H4 hA (.lst [V.ref h0, V.ref h1]) hA = some (.lst (([h0, h1] : List Addr).map V.ref)) := upd_same
    have b5 := q5 _ _ b4
    have a5 := q5 _ _ a4
    have r5 := q5 _ _ r4
    have c5 := q5 _ _ c4
    generalize upd H4 hA (.lst [V.ref h0, V.ref h1]) = H5 at e5 b5 a5 r5 c5 ⊢
    clear q5
    dsimp only [gName]
    -- good
    refine seq_mid (fun σ H6 => ∃ (g : Bool) (v0 v1 : Option V), (g = true ↔ okC row.length 0 cs) ∧ σ = [v0, v1, some (.ref rp), some (.ref cp), some (.ref hA), some (.bl g), none, none, none, none, none, none, none, none] ∧ Same H5 H6) ?_ ?_
    · intro D' _ _ _ kk
      refine ⟨_, rfl, _, rfl, cp, cs, rfl, SqL.of c5, by omega, fun ks sA nd mem nS => ?_⟩
      have hkl := nodup_len nd fun x hx => (mem x).mp hx
      refine ⟨sA, ks, rfl, upd_same, by omega, fun ns' lA pm so nL => ?_⟩
      have s7 := Same.upd (o := .lst (ns'.map V.int)) (Same.upd0 nS) nL
      refine ⟨cp, lA, cs, ns', rfl, rfl, SqL.of (s7 _ _ c5), SqL.of upd_same, _, rfl, ?_⟩
      have iff := rise_iff nd mem pm so
      by_cases hp : cs.Pairwise (· < ·)
      · rw [show decide (cs = ns') = true from decide_eq_true (iff.mpr hp)]
        refine iteT ⟨_, rfl, cp, rfl, ⟨_, SqL.of (s7 _ _ c5)⟩, ?_⟩
        refine comp_list (xs := vI cs) (fun i ys H8 => Same H5 H8 ∧ ys = ((cs.take i).map (inB row.length)).map V.bl ∧ ys.length = i) (le_line (by rw [ints_len]; omega)) ⟨s7, rfl, rfl⟩ (fun _ _ _ q => q.2.2) (fun _ _ _ ⟨e, _⟩ => SqL.of (e _ _ c5)) ?_ ?_
        · rintro i ys H8 x C hx ⟨s8, rfl, hl⟩ kk2
          have hi : i < cs.length := by
            have := (List.getElem?_eq_some_iff.mp hx).1
            rw [ints_len] at this
            exact this
          have hci := List.getElem?_eq_getElem hi
          rw [List.getElem?_map, hci] at hx
          cases hx
          have fin : ∀ b : Bool, b = inB row.length cs[i] → C (.bl b) H8 := fun b hb => kk2 _ _ ⟨s8, by rw [take_snoc hci, List.map_append, List.map_append, hb]; rfl, by rw [List.length_append, hl]; rfl⟩
          refine ⟨_, rfl, _, _, rfl, rfl, _, rfl, ?_⟩
          refine bOf (fun h1 => ?_) (fun h1 => ?_)
          · refine ⟨_, rfl, rp, _, rfl, .inl (SqL.of (s8 _ _ r5)), _, _, rfl, rfl, ?_⟩
            rw [ints_len]
            refine fin _ ?_
            unfold inB
            rw [h1, Bool.true_and]
          · refine fin _ ?_
            unfold inB
            rw [h1, Bool.false_and]
        rintro ys H8 ⟨s8, rfl, _⟩ bA nB
        rw [ints_len, List.take_length]
        refine ⟨bA, cs.map (inB row.length), rfl, SqL.of upd_same, ?_⟩
        exact kk _ _ ⟨_, _, _, by rw [okC_all]; exact ⟨fun h => ⟨hp, h⟩, fun h => h.2⟩, rfl, Same.upd s8 nB⟩
      · rw [show decide (cs = ns') = false from decide_eq_false (fun e => hp (iff.mp e))]
        exact iteF (kk _ _ ⟨false, _, _, ⟨fun h => (Bool.false_ne_true h).elim, fun h => absurd (okC_all.mp h).1 hp⟩, rfl, s7⟩)
    rintro σ H6 ⟨g, v0, v1, hg, rfl, s6⟩
    have r6 := s6 _ _ r5
    have c6 := s6 _ _ c5
    have a6 := s6 _ _ a5
    have b6 := s6 _ _ b5
    have e6 := s6 _ _ e5
    clear s6 r5 c5 a5 b5 e5 a4 b4 r4 c4 a3 r3 c3 nhA nh1 nh0
    have pair : ∀ H' : Hp, H' h0 = some (.lst (vI row)) → H' h1 = some (.lst (vI cs)) → H' rp = some (.lst (vI row)) → H' cp = some (.lst (vI cs)) → ∀ (j : Nat) x y, ([h0, h1] : List Addr)[j]? = some x → ([rp, cp] : List Addr)[j]? = some y → SameL K H' x y := by
      intro H' z1 z2 z3 z4 j x y hx hy
      match j, hx, hy with
      | 0, hx, hy => cases hx; cases hy; exact ⟨row, SqL.of z1, SqL.of z3⟩
      | 1, hx, hy => cases hx; cases hy; exact ⟨cs, SqL.of z2, SqL.of z4⟩
    cases g with
    | false =>
      refine ⟨_, rfl, _, rfl, iteT ?_⟩
      refine ⟨_, rfl, hA, _, _, _, rfl, rfl, SqL.of e6, rfl, _, rfl, hA, _, _, _, rfl, rfl, SqL.of e6, rfl, ?_⟩
      refine ⟨h0, h1, row, cs, rfl, SqL.of a6, SqL.of b6, fun h => Bool.false_ne_true (hg.mpr h), fun H7 s7 => ⟨_, rfl, iteT ?_⟩⟩
      refine ⟨_, rfl, _, rfl, _, rfl, (by show 2 ≤ sizeLine; decide), fun lA nl => ?_⟩
      have s8 := Same.upd (o := .lst [V.ref rp, V.ref cp]) s7 nl
      exact ⟨hA, lA, [h0, h1], [rp, cp], rfl, rfl, SqL.of (s8 _ _ e6), SqL.of upd_same, rfl, pair _ (s8 _ _ a6) (s8 _ _ b6) (s8 _ _ r6) (s8 _ _ c6), k _⟩
    | true =>
      refine ⟨_, rfl, _, rfl, iteF ?_⟩
      have hok := hg.mp rfl
      obtain ⟨ds, rfl⟩ := okC_nat hok
      rw [toI_len] at hcl
      have hfl := (lines_all hok).length_eq
      rw [List.length_range] at hfl
      -- found
      refine ⟨_, rfl, hA, _, _, _, rfl, rfl, SqL.of e6, rfl, _, rfl, hA, _, _, _, rfl, rfl, SqL.of e6, rfl, ?_⟩
      refine ⟨h0, h1, row, ds, rfl, SqL.of a6, hR, (by rw [b6, vN_vI]), hok, by omega, fun fA as H7 s7 nf hf hls nda hout => ?_⟩
      have hal := hls.len
      rw [linesOf_len] at hal
      have r7 := s7 _ _ r6
      have c7 : H7 cp = some (.lst (vN ds)) := by rw [s7 _ _ c6, vN_vI]
      dsimp only [gName]
      -- begins
      refine ⟨(by show 1 ≤ sizeLine; decide), fun z nz => ?_⟩
      have s8 := Same.upd0 (o := .lst [V.int 0]) nz
      have z8 : upd H7 z (.lst [V.int 0]) z = some (.lst [V.int 0]) := upd_same
      generalize upd H7 z (.lst [V.int 0]) = H8 at s8 z8 ⊢
      refine ⟨_, rfl, z, cp, _, _, rfl, rfl, z8, s8 _ _ c7, le_line (by rw [vN_len]; show 1 + _ ≤ _; omega), fun bA nb => ?_⟩
      have s9 := Same.upd (o := .lst ([V.int 0] ++ vN ds)) s8 nb
      have b9 : upd H8 bA (.lst ([V.int 0] ++ vN ds)) bA = some (.lst (vN (0 :: ds))) := upd_same
      generalize upd H8 bA (.lst ([V.int 0] ++ vN ds)) = H9 at s9 b9 ⊢
      dsimp only [gName]
      -- ends
      refine ⟨_, rfl, _, rfl, rp, _, rfl, .inl (SqL.of (s9 _ _ r7)), (by show 1 ≤ sizeLine; decide), fun z2 nz2 => ?_⟩
      rw [ints_len]
      have q10 := Same.upd0 (o := .lst [V.int (row.length : Int)]) nz2
      have s10 := Same.trans s9 q10
      have b10 := q10 _ _ b9
      have z10 : upd H9 z2 (.lst [V.int (row.length : Int)]) z2 = some (.lst [V.int (row.length : Int)]) := upd_same
      generalize upd H9 z2 (.lst [V.int (row.length : Int)]) = H10 at s10 b10 z10 ⊢
      clear q10
      refine ⟨cp, z2, _, _, rfl, rfl, s10 _ _ c7, z10, le_line (by rw [vN_len]; show _ + 1 ≤ _; omega), fun eA ne => ?_⟩
      rw [vN_snoc]
      have q11 := Same.upd0 (o := .lst (vN (ds ++ [row.length]))) ne
      have s11 := Same.trans s10 q11
      have b11 := q11 _ _ b10
      have e11 : upd H10 eA (.lst (vN (ds ++ [row.length]))) eA = some (.lst (vN (ds ++ [row.length]))) := upd_same
      have neA : ∀ x o, H7 x = some o → x ≠ eA := fun x o hx => ne_of_none (s10 _ _ hx) ne
      generalize upd H10 eA (.lst (vN (ds ++ [row.length]))) = H11 at s11 b11 e11 ⊢
      clear q11 z10 z8 s8 s9 b9 s10 b10 nz nb nz2 ne
      dsimp only [gName]
      -- a list of as many lines, what was handed over unchanged
      refine ⟨_, rfl, _, _, _, true, rfl, TyOf.lst (s11 _ _ hf), rfl, _, rfl, ?_⟩
      refine iteF ⟨_, rfl, fA, _, rfl, .inl (SqL.of (s11 _ _ hf)), _, rfl, eA, _, rfl, .inl (SqL.of e11), rfl, _, rfl, ?_⟩
      refine iteNS (by rw [List.length_map, vN_len, hal]; simp) ?_
      refine ⟨_, rfl, _, rfl, _, rfl, (by show 2 ≤ sizeLine; decide), fun l2 nl2 => ?_⟩
      have q12 := Same.upd0 (o := .lst [V.ref rp, V.ref cp]) nl2
      have s12 := Same.trans s11 q12
      have b12 := q12 _ _ b11
      have e12 := q12 _ _ e11
      have l12 : upd H11 l2 (.lst [V.ref rp, V.ref cp]) l2 = some (.lst (([rp, cp] : List Addr).map V.ref)) := upd_same
      generalize upd H11 l2 (.lst [V.ref rp, V.ref cp]) = H12 at s12 b12 e12 l12 ⊢
      clear q12 b11 e11 s11
      have s612 := Same.trans s7 s12
      refine ⟨hA, l2, [h0, h1], [rp, cp], rfl, rfl, SqL.of (s612 _ _ e6), SqL.of l12, rfl, pair _ (s612 _ _ a6) (s612 _ _ b6) (s612 _ _ r6) (s612 _ _ c6), _, rfl, iteF ?_⟩
      -- each line
      refine ⟨_, rfl, _, rfl, _, rfl, _, _, _, _, _, _, rfl, .lst (SqL.of (s12 _ _ hf)), .lst (SqL.of b12), .lst (SqL.of e12), ?_⟩
      refine for_it (ds.length + 1) (fun i σ H13 => ∃ (v9 v10 v11 : Option V), σ = [v0, v1, some (.ref rp), some (.ref cp), some (.ref hA), some (.bl true), some (.ref fA), some (.ref bA), some (.ref eA), v9, v10, v11, none, none] ∧ Same H12 H13) ⟨_, _, _, rfl, Same.refl _⟩ ?_ ?_ ?_ ?_
      · rintro i σ H13 hi ⟨v9, v10, v11, rfl, s13⟩
        exact ⟨⟨_, _, SqL.of (s13 _ _ (s12 _ _ hf)), List.getElem?_eq_getElem (by rw [List.length_map]; omega)⟩, ⟨_, _, SqL.of (s13 _ _ b12), List.getElem?_eq_getElem (by rw [vN_len]; simp; omega)⟩, ⟨_, _, SqL.of (s13 _ _ e12), List.getElem?_eq_getElem (by rw [vN_len]; simp; omega)⟩⟩
      · rintro σ H13 ⟨v9, v10, v11, rfl, s13⟩
        exact ⟨_, SqL.of (s13 _ _ (s12 _ _ hf)), by rw [List.length_map]; exact hal⟩
      · rintro i σ H13 v H14 hi ⟨v9, v10, v11, rfl, s13⟩ ⟨tp, x, y, u, rfl, ntp, rfl, hx, hy, hu'⟩
        obtain ⟨la, hla, rfl⟩ := refs_get (hx _ (SqL.of (s13 _ _ (s12 _ _ hf))))
        obtain ⟨f, hf', rfl⟩ := vN_get (hy _ (SqL.of (s13 _ _ b12)))
        obtain ⟨b, hb', rfl⟩ := vN_get (hu' _ (SqL.of (s13 _ _ e12)))
        obtain ⟨g1, g2⟩ := okC_at hok (Nat.zero_le _) hf' hb'
        obtain ⟨g, hg', hlg⟩ := hls.at hla
        rw [linesOf_at hf' hb'] at hg'
        cases hg'
        refine ⟨tp, _, rfl, SqT.of upd_same, rfl, _, _, rfl, _, _, rfl, _, _, rfl, rfl, ?_⟩
        have s14 := Same.upd (o := .tup [V.ref la, V.int (f : Int), V.int (b : Int)]) s13 ntp
        generalize upd H13 tp (.tup [V.ref la, V.int (f : Int), V.int (b : Int)]) = H14 at s14 ⊢
        dsimp only [gName]
        refine ⟨_, rfl, _, rfl, _, rfl, _, rfl, _, _, rfl, fun g ng => ?_⟩
        refine ⟨g, _, _, b - f, rfl, upd_same, by omega, by omega, by omega, by omega, fun l hl => ?_⟩
        rw [iota_vN']
        have s15 := Same.upd (o := .lst (vN ((List.range (b - f)).map (f + ·)))) (Same.upd s14 ng) hl
        refine ⟨rp, l, row, _, 0, rfl, SqL.of (s15 _ _ (s12 _ _ r7)), SqL.of upd_same, lvl_le hR, line_in g2, by rw [List.length_map, List.length_range]; omega, rfl, fun dp H16 s16 ndp hdp => ?_⟩
        have s17 := Same.trans s12 (Same.trans s15 s16)
        refine ⟨la, dp, toI (lineOf row f b), rfl, by rw [s17 _ _ hlg, vN_vI], SqL.of (by rw [hdp, vN_vI]; rfl), by rw [toI_len, line_len]; omega, _, rfl, iteF ?_⟩
        exact ⟨_, _, _, rfl, Same.trans s15 s16⟩
      rintro σ H13 ⟨v9, v10, v11, rfl, s13⟩
      have s14 := Same.trans s12 s13
      have e14 := s13 _ _ e12
      clear s12 s13 b12 e12 l12 s612
      -- together
      refine ⟨Nat.zero_le _, fun tA nT => ?_⟩
      have q15 := Same.upd0 (o := .lst []) nT
      have s15 := Same.trans s14 q15
      have e15 := q15 _ _ e14
      have t15 : upd H13 tA (.lst []) tA = some (.lst (vN ((linesOf row ds).take 0).flatten)) := upd_same
      generalize upd H13 tA (.lst []) = H15 at s15 e15 t15 ⊢
      clear q15 nT
      dsimp only [gName]
      refine ⟨_, rfl, fA, rfl, ⟨_, SqL.of (s15 _ _ hf)⟩, ?_⟩
      refine for_list (K := K) (xs := as.map V.ref) (fun i σ H16 => ∃ (tA : Addr) (v9 : Option V), σ = [v0, v1, some (.ref rp), some (.ref cp), some (.ref hA), some (.bl true), some (.ref fA), some (.ref bA), some (.ref eA), v9, v10, v11, some (.ref tA), none] ∧ Same H15 H16 ∧ H16 tA = some (.lst (vN ((linesOf row ds).take i).flatten))) ⟨tA, _, rfl, Same.refl _, t15⟩ ?_ ?_ ?_
      · rintro i σ H16 _ ⟨tA, v9, rfl, s16, t16⟩
        exact SqL.of (s16 _ _ (s15 _ _ hf))
      · rintro i x σ H16 hx ⟨tA, v9, rfl, s16, t16⟩
        obtain ⟨la, hla, rfl⟩ := refs_get hx
        obtain ⟨g, hg', hlg⟩ := hls.at hla
        have le := flat_le (gs := linesOf row ds) (i + 1)
        rw [← flat_take hg', List.length_append] at le
        dsimp only [gName]
        refine ⟨_, rfl, _, rfl, tA, la, _, _, rfl, rfl, t16, s16 _ _ (s15 _ _ hlg), le_line (by rw [vN_len, vN_len]; omega), fun p np => ?_⟩
        exact ⟨p, _, rfl, Same.upd s16 np, by rw [upd_same, vN_app, flat_take hg']⟩
      clear t15 tA
      rintro σ H16 ⟨tA, v9, rfl, s16, t16⟩
      have ea : (linesOf row ds).take (as.map V.ref).length = linesOf row ds := by rw [List.length_map, hal, ← linesOf_len row ds, List.take_length]
      rw [ea] at t16
      have s17 := Same.trans s15 s16
      have e17 := s16 _ _ e15
      clear s15 s16 e15 e14 s14
      -- every place once
      refine ⟨_, rfl, tA, toI (linesOf row ds).flatten, rfl, SqL.of (by rw [t16]; exact congrArg (fun x => some (HO.lst x)) (vN_vI _)), by rw [toI_len]; omega, fun ns' lA pm so nL => ?_⟩
      have en := sorted_range pm (lines_all hok) so
      subst en
      have q18 := Same.upd0 (o := .lst ((toI (List.range row.length)).map V.int)) nL
      have s18 := Same.trans s17 q18
      have e18 := q18 _ _ e17
      have l18 : upd H16 lA (.lst ((toI (List.range row.length)).map V.int)) lA = some (.lst ((toI (List.range row.length)).map V.int)) := upd_same
      generalize upd H16 lA (.lst ((toI (List.range row.length)).map V.int)) = H18 at s18 e18 l18 ⊢
      clear q18 s17 e17 nL
      refine ⟨_, rfl, rp, _, rfl, .inl (SqL.of (s18 _ _ r7)), _, rfl, fun g ng => ?_⟩
      refine ⟨g, 0, _, row.length, rfl, upd_same, by decide, by rw [ints_len]; omega, by rw [ints_len]; omega, by omega, fun l hl => ?_⟩
      rw [iota_vN]
      have q19 := Same.upd (o := .lst (vN (List.range row.length))) (Same.upd0 (o := .rng 0 ((vI row).length : Int)) ng) hl
      have s19 := Same.trans s18 q19
      have e19 := q19 _ _ e18
      have l19 := q19 _ _ l18
      have m19 : upd (upd H18 g (.rng 0 ((vI row).length : Int))) l (.lst (vN (List.range row.length))) l = some (.lst ((toI (List.range row.length)).map V.int)) := by rw [upd_same]; exact congrArg (fun x => some (HO.lst x)) (vN_vI _)
      generalize upd (upd H18 g (.rng 0 ((vI row).length : Int))) l (.lst (vN (List.range row.length))) = H19 at s19 e19 l19 m19 ⊢
      clear q19 s18 e18 l18
      refine ⟨lA, l, _, _, rfl, rfl, SqL.of l19, SqL.of m19, _, rfl, ?_⟩
      rw [show (!decide (toI (List.range row.length) = toI (List.range row.length))) = false by simp]
      refine iteF ?_
      -- a line told is changed
      obtain ⟨e0, he0⟩ : ∃ e0, (ds ++ [row.length])[0]? = some e0 := ⟨_, List.getElem?_eq_getElem (by simp)⟩
      have hl0 := linesOf_at (row := row) (ds := ds) (i := 0) rfl he0
      obtain ⟨_, he0n⟩ := okC_at (ds := ds) (a := 0) (i := 0) hok (Nat.zero_le _) rfl he0
      obtain ⟨f0, hf0, hlf⟩ := hls.atg hl0
      cases as with
      | nil => cases hf0
      | cons f0' as' =>
      cases hf0
      obtain ⟨nf0, nfp⟩ := hout f0 (by simp)
      have ndr : f0 ≠ rp := (ne_of_none r6 nf0).symm
      have ndc : f0 ≠ cp := (ne_of_none c6 nf0).symm
      have nde : f0 ≠ eA := neA _ _ hlf
      rw [List.nodup_cons] at nda
      have af0 : atI ((f0 :: as').map V.ref) 0 = some (V.ref f0) := refs_at (as := f0 :: as') (i := 0) rfl
      refine ⟨_, rfl, fA, _, _, _, rfl, rfl, SqL.of (s19 _ _ hf), af0, .inl ⟨rfl, _, SqL.of (s19 _ _ hlf)⟩, f0, _, _, rfl, rfl, s19 _ _ hlf, small1000 (by rw [vN_len, line_len]; omega), ?_⟩
      have r20 : upd H19 f0 (.lst (vN (lineOf row 0 e0) ++ [V.int 0])) rp = some (.lst (vI row)) := (upd_ne ndr.symm).trans (s19 _ _ r7)
      have c20 : upd H19 f0 (.lst (vN (lineOf row 0 e0) ++ [V.int 0])) cp = some (.lst (vN ds)) := (upd_ne ndc.symm).trans (s19 _ _ c7)
      have e20 : upd H19 f0 (.lst (vN (lineOf row 0 e0) ++ [V.int 0])) eA = some (.lst (vN (ds ++ [row.length]))) := (upd_ne nde.symm).trans e19
      have f20 : upd H19 f0 (.lst (vN (lineOf row 0 e0) ++ [V.int 0])) fA = some (.lst ((f0 :: as').map V.ref)) := (upd_ne nfp.symm).trans (s19 _ _ hf)
      have l20 : ∀ (j : Nat) y g, as'[j]? = some y → (linesOf row ds)[j + 1]? = some g → upd H19 f0 (.lst (vN (lineOf row 0 e0) ++ [V.int 0])) y = some (.lst (vN g)) := fun j y g hy hg => by
        obtain ⟨g2, hg2, hyg⟩ := hls.at (i := j + 1) (a := y) hy
        rw [hg] at hg2
        cases hg2
        exact (upd_ne (show y ≠ f0 from fun e => nda.1 (e ▸ List.mem_of_getElem? hy))).trans (s19 _ _ hyg)
      generalize upd H19 f0 (.lst (vN (lineOf row 0 e0) ++ [V.int 0])) = H20 at r20 c20 e20 f20 l20 ⊢
      -- again
      refine ⟨_, rfl, _, rfl, rp, cp, row, ds, rfl, SqL.of r20, hR, c20, hok, by omega, fun gA bs H21 s21 ng2 hgA hgl ndg _ => ?_⟩
      have hbl := hgl.len
      rw [linesOf_len] at hbl
      obtain ⟨b0, hb0, hlb⟩ := hgl.atg hl0
      cases bs with
      | nil => cases hb0
      | cons b0' bs' =>
      cases hb0
      dsimp only [gName]
      refine ⟨_, rfl, _, rfl, gA, _, rfl, SqL.of hgA, fun y1 n1 => ?_⟩
      rw [show ((b0 :: bs').map V.ref) = V.ref b0 :: bs'.map V.ref from rfl, cut_tail]
      have s22 := Same.upd (o := .lst (bs'.map V.ref)) s21 n1
      have q22 := Same.upd0 (o := .lst (bs'.map V.ref)) n1
      have y22 : upd H21 y1 (.lst (bs'.map V.ref)) y1 = some (.lst (bs'.map V.ref)) := upd_same
      generalize upd H21 y1 (.lst (bs'.map V.ref)) = H22 at s22 q22 y22 ⊢
      refine ⟨_, rfl, _, rfl, fA, _, rfl, SqL.of (s22 _ _ f20), fun y2 n2 => ?_⟩
      rw [show ((f0 :: as').map V.ref) = V.ref f0 :: as'.map V.ref from rfl, cut_tail]
      have s23 := Same.upd (o := .lst (as'.map V.ref)) s22 n2
      have q23 := Same.upd (o := .lst (as'.map V.ref)) q22 n2
      have y23 := Same.upd0 (o := .lst (as'.map V.ref)) n2 _ _ y22
      have w23 : upd H22 y2 (.lst (as'.map V.ref)) y2 = some (.lst (as'.map V.ref)) := upd_same
      generalize upd H22 y2 (.lst (as'.map V.ref)) = H23 at s23 q23 y23 w23 ⊢
      rw [List.length_cons] at hal hbl
      refine ⟨y1, y2, bs', as', rfl, rfl, SqL.of y23, SqL.of w23, by omega, fun j x y hx hy => ?_, _, rfl, iteT ?_⟩
      · obtain ⟨g, hg', hxg⟩ := hgl.at (i := j + 1) (a := x) hx
        exact ⟨toI g, SqL.of (by rw [q23 _ _ hxg]; exact congrArg (fun x => some (HO.lst x)) (vN_vI _)), SqL.of (by rw [s23 _ _ (l20 j y g hy hg')]; exact congrArg (fun x => some (HO.lst x)) (vN_vI _))⟩
      have ae0 : atI (vN (ds ++ [row.length])) 0 = some (V.int (e0 : Int)) := atI_nat (j := 0) (by rw [List.getElem?_map, he0]; rfl)
      have ab0 : atI ((b0 :: bs').map V.ref) 0 = some (V.ref b0) := refs_at (as := b0 :: bs') (i := 0) rfl
      refine ⟨_, rfl, gA, _, _, _, rfl, rfl, SqL.of (q23 _ _ hgA), ab0, _, rfl, _, rfl, eA, _, _, _, rfl, rfl, SqL.of (s23 _ _ e20), ae0, _, rfl, fun g ng => ?_⟩
      refine ⟨g, 0, _, e0, rfl, upd_same, by decide, by omega, by omega, by omega, fun l hl => ?_⟩
      rw [iota_vN]
      have s24 := Same.upd (o := .lst (vN (List.range e0))) (Same.upd s23 ng) hl
      have q24 := Same.upd (o := .lst (vN (List.range e0))) (Same.upd q23 ng) hl
      refine ⟨rp, l, row, _, 0, rfl, SqL.of (s24 _ _ r20), SqL.of upd_same, lvl_le hR, fun p hp => by have := List.mem_range.mp hp; omega, by rw [List.length_range]; omega, rfl, fun dp H25 s25 ndp hdp => ?_⟩
      have eq0 := line_zero row e0
      exact ⟨b0, dp, toI (lineOf row 0 e0), rfl, by rw [s25 _ _ (q24 _ _ hlb), vN_vI], SqL.of (by rw [hdp, eq0, vN_vI]), by rw [toI_len, line_len]; omega, k _⟩
end
theorem all_mk {l : PySem.W.OpenLaw} {w : World} {K : PySem.W.Frag} {h : Heap} {mg : Str → Option Value} {fa f_longest_rows f_turned_about f_order f_check_cuts f_lines f__law_cell_at f__law_pick f__law_mix f__law_size f__law_row f__law_whole f__law_list f__law_order f__law_refused f__law_cuts f_law : Addr} (X : K.In h) (G : h.Ns mainGlobals mg) (hfa : mg "law" = some (.ref fa))
    {od_longest_rows an_longest_rows : Option Addr} {sl_longest_rows : Array (Option Value)} {oc_longest_rows kV_longest_rows dc_longest_rows pm_longest_rows cd_longest_rows ct_longest_rows : Value}
    (a_longest_rows : PySem.W.nsIn K mainGlobals "longest_rows" = some (some (.ref f_longest_rows))) (l_longest_rows : K.lookup f_longest_rows = some ⟨oc_longest_rows, od_longest_rows, .func (PySem.W.fnOf "longest_rows" "longest_rows" (defArgs s_longest_rows) (defBody s_longest_rows) (defScope s_longest_rows) .none kV_longest_rows dc_longest_rows pm_longest_rows an_longest_rows cd_longest_rows ct_longest_rows), sl_longest_rows⟩) (c_longest_rows : PySem.W.codeIn K cd_longest_rows "longest_rows" = true) (k_longest_rows : PySem.W.keepIn K (.ref f_longest_rows) = true)
    {od_turned_about an_turned_about : Option Addr} {sl_turned_about : Array (Option Value)} {oc_turned_about kV_turned_about dc_turned_about pm_turned_about cd_turned_about ct_turned_about : Value}
    (a_turned_about : PySem.W.nsIn K mainGlobals "turned_about" = some (some (.ref f_turned_about))) (l_turned_about : K.lookup f_turned_about = some ⟨oc_turned_about, od_turned_about, .func (PySem.W.fnOf "turned_about" "turned_about" (defArgs s_turned_about) (defBody s_turned_about) (defScope s_turned_about) .none kV_turned_about dc_turned_about pm_turned_about an_turned_about cd_turned_about ct_turned_about), sl_turned_about⟩) (c_turned_about : PySem.W.codeIn K cd_turned_about "turned_about" = true) (k_turned_about : PySem.W.keepIn K (.ref f_turned_about) = true)
    {od_order an_order : Option Addr} {sl_order : Array (Option Value)} {oc_order kV_order dc_order pm_order cd_order ct_order : Value}
    (a_order : PySem.W.nsIn K mainGlobals "order" = some (some (.ref f_order))) (l_order : K.lookup f_order = some ⟨oc_order, od_order, .func (PySem.W.fnOf "order" "order" (defArgs s_order) (defBody s_order) (defScope s_order) .none kV_order dc_order pm_order an_order cd_order ct_order), sl_order⟩) (c_order : PySem.W.codeIn K cd_order "order" = true) (k_order : PySem.W.keepIn K (.ref f_order) = true)
    {od_check_cuts an_check_cuts : Option Addr} {sl_check_cuts : Array (Option Value)} {oc_check_cuts kV_check_cuts dc_check_cuts pm_check_cuts cd_check_cuts ct_check_cuts : Value}
    (a_check_cuts : PySem.W.nsIn K mainGlobals "check_cuts" = some (some (.ref f_check_cuts))) (l_check_cuts : K.lookup f_check_cuts = some ⟨oc_check_cuts, od_check_cuts, .func (PySem.W.fnOf "check_cuts" "check_cuts" (defArgs s_check_cuts) (defBody s_check_cuts) (defScope s_check_cuts) .none kV_check_cuts dc_check_cuts pm_check_cuts an_check_cuts cd_check_cuts ct_check_cuts), sl_check_cuts⟩) (c_check_cuts : PySem.W.codeIn K cd_check_cuts "check_cuts" = true) (k_check_cuts : PySem.W.keepIn K (.ref f_check_cuts) = true)
    {od_lines an_lines : Option Addr} {sl_lines : Array (Option Value)} {oc_lines kV_lines dc_lines pm_lines cd_lines ct_lines : Value}
    (a_lines : PySem.W.nsIn K mainGlobals "lines" = some (some (.ref f_lines))) (l_lines : K.lookup f_lines = some ⟨oc_lines, od_lines, .func (PySem.W.fnOf "lines" "lines" (defArgs s_lines) (defBody s_lines) (defScope s_lines) .none kV_lines dc_lines pm_lines an_lines cd_lines ct_lines), sl_lines⟩) (c_lines : PySem.W.codeIn K cd_lines "lines" = true) (k_lines : PySem.W.keepIn K (.ref f_lines) = true)
    {od__law_cell_at an__law_cell_at : Option Addr} {sl__law_cell_at : Array (Option Value)} {oc__law_cell_at kV__law_cell_at dc__law_cell_at pm__law_cell_at cd__law_cell_at ct__law_cell_at : Value}
    (a__law_cell_at : PySem.W.nsIn K mainGlobals "_law_cell_at" = some (some (.ref f__law_cell_at))) (l__law_cell_at : K.lookup f__law_cell_at = some ⟨oc__law_cell_at, od__law_cell_at, .func (PySem.W.fnOf "_law_cell_at" "_law_cell_at" (defArgs s__law_cell_at) (defBody s__law_cell_at) (defScope s__law_cell_at) .none kV__law_cell_at dc__law_cell_at pm__law_cell_at an__law_cell_at cd__law_cell_at ct__law_cell_at), sl__law_cell_at⟩) (c__law_cell_at : PySem.W.codeIn K cd__law_cell_at "_law_cell_at" = true) (k__law_cell_at : PySem.W.keepIn K (.ref f__law_cell_at) = true)
    {od__law_pick an__law_pick : Option Addr} {sl__law_pick : Array (Option Value)} {oc__law_pick kV__law_pick dc__law_pick pm__law_pick cd__law_pick ct__law_pick : Value}
    (a__law_pick : PySem.W.nsIn K mainGlobals "_law_pick" = some (some (.ref f__law_pick))) (l__law_pick : K.lookup f__law_pick = some ⟨oc__law_pick, od__law_pick, .func (PySem.W.fnOf "_law_pick" "_law_pick" (defArgs s__law_pick) (defBody s__law_pick) (defScope s__law_pick) .none kV__law_pick dc__law_pick pm__law_pick an__law_pick cd__law_pick ct__law_pick), sl__law_pick⟩) (c__law_pick : PySem.W.codeIn K cd__law_pick "_law_pick" = true) (k__law_pick : PySem.W.keepIn K (.ref f__law_pick) = true)
    {od__law_mix an__law_mix : Option Addr} {sl__law_mix : Array (Option Value)} {oc__law_mix kV__law_mix dc__law_mix pm__law_mix cd__law_mix ct__law_mix : Value}
    (a__law_mix : PySem.W.nsIn K mainGlobals "_law_mix" = some (some (.ref f__law_mix))) (l__law_mix : K.lookup f__law_mix = some ⟨oc__law_mix, od__law_mix, .func (PySem.W.fnOf "_law_mix" "_law_mix" (defArgs s__law_mix) (defBody s__law_mix) (defScope s__law_mix) .none kV__law_mix dc__law_mix pm__law_mix an__law_mix cd__law_mix ct__law_mix), sl__law_mix⟩) (c__law_mix : PySem.W.codeIn K cd__law_mix "_law_mix" = true) (k__law_mix : PySem.W.keepIn K (.ref f__law_mix) = true)
    {od__law_size an__law_size : Option Addr} {sl__law_size : Array (Option Value)} {oc__law_size kV__law_size dc__law_size pm__law_size cd__law_size ct__law_size : Value}
    (a__law_size : PySem.W.nsIn K mainGlobals "_law_size" = some (some (.ref f__law_size))) (l__law_size : K.lookup f__law_size = some ⟨oc__law_size, od__law_size, .func (PySem.W.fnOf "_law_size" "_law_size" (defArgs s__law_size) (defBody s__law_size) (defScope s__law_size) .none kV__law_size dc__law_size pm__law_size an__law_size cd__law_size ct__law_size), sl__law_size⟩) (c__law_size : PySem.W.codeIn K cd__law_size "_law_size" = true) (k__law_size : PySem.W.keepIn K (.ref f__law_size) = true)
    {od__law_row an__law_row : Option Addr} {sl__law_row : Array (Option Value)} {oc__law_row kV__law_row dc__law_row pm__law_row cd__law_row ct__law_row : Value}
    (a__law_row : PySem.W.nsIn K mainGlobals "_law_row" = some (some (.ref f__law_row))) (l__law_row : K.lookup f__law_row = some ⟨oc__law_row, od__law_row, .func (PySem.W.fnOf "_law_row" "_law_row" (defArgs s__law_row) (defBody s__law_row) (defScope s__law_row) .none kV__law_row dc__law_row pm__law_row an__law_row cd__law_row ct__law_row), sl__law_row⟩) (c__law_row : PySem.W.codeIn K cd__law_row "_law_row" = true) (k__law_row : PySem.W.keepIn K (.ref f__law_row) = true)
    {od__law_whole an__law_whole : Option Addr} {sl__law_whole : Array (Option Value)} {oc__law_whole kV__law_whole dc__law_whole pm__law_whole cd__law_whole ct__law_whole : Value}
    (a__law_whole : PySem.W.nsIn K mainGlobals "_law_whole" = some (some (.ref f__law_whole))) (l__law_whole : K.lookup f__law_whole = some ⟨oc__law_whole, od__law_whole, .func (PySem.W.fnOf "_law_whole" "_law_whole" (defArgs s__law_whole) (defBody s__law_whole) (defScope s__law_whole) .none kV__law_whole dc__law_whole pm__law_whole an__law_whole cd__law_whole ct__law_whole), sl__law_whole⟩) (c__law_whole : PySem.W.codeIn K cd__law_whole "_law_whole" = true) (k__law_whole : PySem.W.keepIn K (.ref f__law_whole) = true)
    {od__law_list an__law_list : Option Addr} {sl__law_list : Array (Option Value)} {oc__law_list kV__law_list dc__law_list pm__law_list cd__law_list ct__law_list : Value}
    (a__law_list : PySem.W.nsIn K mainGlobals "_law_list" = some (some (.ref f__law_list))) (l__law_list : K.lookup f__law_list = some ⟨oc__law_list, od__law_list, .func (PySem.W.fnOf "_law_list" "_law_list" (defArgs s__law_list) (defBody s__law_list) (defScope s__law_list) .none kV__law_list dc__law_list pm__law_list an__law_list cd__law_list ct__law_list), sl__law_list⟩) (c__law_list : PySem.W.codeIn K cd__law_list "_law_list" = true) (k__law_list : PySem.W.keepIn K (.ref f__law_list) = true)
    {od__law_order an__law_order : Option Addr} {sl__law_order : Array (Option Value)} {oc__law_order kV__law_order dc__law_order pm__law_order cd__law_order ct__law_order : Value}
    (a__law_order : PySem.W.nsIn K mainGlobals "_law_order" = some (some (.ref f__law_order))) (l__law_order : K.lookup f__law_order = some ⟨oc__law_order, od__law_order, .func (PySem.W.fnOf "_law_order" "_law_order" (defArgs s__law_order) (defBody s__law_order) (defScope s__law_order) .none kV__law_order dc__law_order pm__law_order an__law_order cd__law_order ct__law_order), sl__law_order⟩) (c__law_order : PySem.W.codeIn K cd__law_order "_law_order" = true) (k__law_order : PySem.W.keepIn K (.ref f__law_order) = true)
    {od__law_refused an__law_refused : Option Addr} {sl__law_refused : Array (Option Value)} {oc__law_refused kV__law_refused dc__law_refused pm__law_refused cd__law_refused ct__law_refused : Value}
    (a__law_refused : PySem.W.nsIn K mainGlobals "_law_refused" = some (some (.ref f__law_refused))) (l__law_refused : K.lookup f__law_refused = some ⟨oc__law_refused, od__law_refused, .func (PySem.W.fnOf "_law_refused" "_law_refused" (defArgs s__law_refused) (defBody s__law_refused) (defScope s__law_refused) .none kV__law_refused dc__law_refused pm__law_refused an__law_refused cd__law_refused ct__law_refused), sl__law_refused⟩) (c__law_refused : PySem.W.codeIn K cd__law_refused "_law_refused" = true) (k__law_refused : PySem.W.keepIn K (.ref f__law_refused) = true)
    {od__law_cuts an__law_cuts : Option Addr} {sl__law_cuts : Array (Option Value)} {oc__law_cuts kV__law_cuts dc__law_cuts pm__law_cuts cd__law_cuts ct__law_cuts : Value}
    (a__law_cuts : PySem.W.nsIn K mainGlobals "_law_cuts" = some (some (.ref f__law_cuts))) (l__law_cuts : K.lookup f__law_cuts = some ⟨oc__law_cuts, od__law_cuts, .func (PySem.W.fnOf "_law_cuts" "_law_cuts" (defArgs s__law_cuts) (defBody s__law_cuts) (defScope s__law_cuts) .none kV__law_cuts dc__law_cuts pm__law_cuts an__law_cuts cd__law_cuts ct__law_cuts), sl__law_cuts⟩) (c__law_cuts : PySem.W.codeIn K cd__law_cuts "_law_cuts" = true) (k__law_cuts : PySem.W.keepIn K (.ref f__law_cuts) = true)
    {od_law an_law : Option Addr} {sl_law : Array (Option Value)} {oc_law kV_law dc_law pm_law cd_law ct_law : Value}
    (a_law : PySem.W.nsIn K mainGlobals "law" = some (some (.ref f_law))) (l_law : K.lookup f_law = some ⟨oc_law, od_law, .func (PySem.W.fnOf "law" "law" (defArgs s_law) (defBody s_law) (defScope s_law) .none kV_law dc_law pm_law an_law cd_law ct_law), sl_law⟩) (c_law : PySem.W.codeIn K cd_law "law" = true) (k_law : PySem.W.keepIn K (.ref f_law) = true)
    (z_len : PySem.W.nsIn K mainGlobals "len" = some none)
    (z_range : PySem.W.nsIn K mainGlobals "range" = some none)
    (z_list : PySem.W.nsIn K mainGlobals "list" = some none)
    (z_isinstance : PySem.W.nsIn K mainGlobals "isinstance" = some none)
    (z_str : PySem.W.nsIn K mainGlobals "str" = some none)
    (z_int : PySem.W.nsIn K mainGlobals "int" = some none)
    (z_bool : PySem.W.nsIn K mainGlobals "bool" = some none)
    (z_zip : PySem.W.nsIn K mainGlobals "zip" = some none)
    (z_enumerate : PySem.W.nsIn K mainGlobals "enumerate" = some none)
    (z_reversed : PySem.W.nsIn K mainGlobals "reversed" = some none)
    (z_min : PySem.W.nsIn K mainGlobals "min" = some none)
    (z_max : PySem.W.nsIn K mainGlobals "max" = some none)
    (z_sorted : PySem.W.nsIn K mainGlobals "sorted" = some none)
    (z_all : PySem.W.nsIn K mainGlobals "all" = some none)
    (z_set : PySem.W.nsIn K mainGlobals "set" = some none)
    (z_tuple : PySem.W.nsIn K mainGlobals "tuple" = some none)
    (z_any : PySem.W.nsIn K mainGlobals "any" = some none)
    (z_sum : PySem.W.nsIn K mainGlobals "sum" = some none)
    {C_TurnError : Addr} (a_TurnError : PySem.W.nsIn K mainGlobals "TurnError" = some (some (.ref C_TurnError)))
    {C_NoMark : Addr} (a_NoMark : PySem.W.nsIn K mainGlobals "NoMark" = some (some (.ref C_NoMark)))
    {C_NoCut : Addr} (a_NoCut : PySem.W.nsIn K mainGlobals "NoCut" = some (some (.ref C_NoCut)))
    (z_ValueError : PySem.W.nsIn K mainGlobals "ValueError" = some none)
    (q1 : PySem.W.excIn K C_NoCut [.type "ValueError", .type "Exception", .type "BaseException", .type "object"] "ValueError.__new__" = true)
    (e1 : PySem.W.findIn K (.ref C_NoCut) "__getattribute__" = some (some (.builtin "BaseException.__getattribute__")))
    (e2 : PySem.W.findIn K (.ref C_NoCut) "__getattr__" = some none)
    (e3 : PySem.W.isClsIn K C_NoCut = true)
    (e4 : PySem.W.findIn K (.ref C_NoCut) "__class__" = some (some (.builtin "object.__class__")))
    (e5 : PySem.W.specialIn K (.builtin "object.__class__") "__get__" = some (some (.builtin "getset_descriptor.__get__")))
    (e6 : PySem.W.takesIn K (.builtin "object.__class__") = some true)
    (e7 : PySem.W.mroIn K C_NoCut (.type "object") = some true)
    (e8 : PySem.W.mroIn K C_NoCut (.type "BaseException") = some true)
    (x1 : PySem.W.exmOne K (.ref C_NoCut) (.ref C_TurnError) = some true)
    (x2 : PySem.W.kitOne K (.ref C_NoCut) (.type "ValueError") = some true)
    (x3 : PySem.W.kitOne K (.ref C_NoCut) (.ref C_NoMark) = some false)
    : ∃ fd : FuncData, (∀ (s : Shared) (v : Value), BindsTo s fd ⟨[v], []⟩ [("script", v)]) ∧ ∀ base : Heap, K.In base → base.Ns mainGlobals mg → FnOk l.prog w K mg base CX0 30 fa fd ["script"] (spLaw K) := by
  have e := hfa.symm.trans (PySem.W.mg_of X G a_law)
  cases e
  have T : Blt mg := ⟨PySem.W.mg_none_of X G z_len, PySem.W.mg_none_of X G z_range, PySem.W.mg_none_of X G z_list, PySem.W.mg_none_of X G z_isinstance, PySem.W.mg_none_of X G z_str, PySem.W.mg_none_of X G z_int, PySem.W.mg_none_of X G z_bool, PySem.W.mg_none_of X G z_zip, PySem.W.mg_none_of X G z_enumerate, PySem.W.mg_none_of X G z_reversed⟩
  have T2 : BltB mg := ⟨PySem.W.mg_none_of X G z_min, PySem.W.mg_none_of X G z_max, PySem.W.mg_none_of X G z_sorted, PySem.W.mg_none_of X G z_all, PySem.W.mg_none_of X G z_set, PySem.W.mg_none_of X G z_tuple, PySem.W.mg_none_of X G z_any, PySem.W.mg_none_of X G z_sum⟩
  have cC : ExcCls K C_NoCut := ⟨e1, e2, e3, e4, e5, e6, e7, e8⟩
  have F_longest_rows := fun_mk (st := s_longest_rows) l_longest_rows c_longest_rows k_longest_rows
  have b_longest_rows := F_longest_rows.binds (ps := ["places"]) fun _ _ _ _ _ _ us hl => match us, hl with | [_], _ => rfl
  have F_turned_about := fun_mk (st := s_turned_about) l_turned_about c_turned_about k_turned_about
  have b_turned_about := F_turned_about.binds (ps := ["row", "first", "behind"]) fun _ _ _ _ _ _ us hl => match us, hl with | [_, _, _], _ => rfl
  have F_order := fun_mk (st := s_order) l_order c_order k_order
  have b_order := F_order.binds (ps := ["levels"]) fun _ _ _ _ _ _ us hl => match us, hl with | [_], _ => rfl
  have F_check_cuts := fun_mk (st := s_check_cuts) l_check_cuts c_check_cuts k_check_cuts
  have b_check_cuts := F_check_cuts.binds (ps := ["count", "cuts"]) fun _ _ _ _ _ _ us hl => match us, hl with | [_, _], _ => rfl
  have F_lines := fun_mk (st := s_lines) l_lines c_lines k_lines
  have b_lines := F_lines.binds (ps := ["levels", "cuts"]) fun _ _ _ _ _ _ us hl => match us, hl with | [_, _], _ => rfl
  have F__law_cell_at := fun_mk (st := s__law_cell_at) l__law_cell_at c__law_cell_at k__law_cell_at
  have b__law_cell_at := F__law_cell_at.binds (ps := ["script", "k"]) fun _ _ _ _ _ _ us hl => match us, hl with | [_, _], _ => rfl
  have F__law_pick := fun_mk (st := s__law_pick) l__law_pick c__law_pick k__law_pick
  have b__law_pick := F__law_pick.binds (ps := ["script", "k"]) fun _ _ _ _ _ _ us hl => match us, hl with | [_, _], _ => rfl
  have F__law_mix := fun_mk (st := s__law_mix) l__law_mix c__law_mix k__law_mix
  have b__law_mix := F__law_mix.binds (ps := ["cell", "k"]) fun _ _ _ _ _ _ us hl => match us, hl with | [_, _], _ => rfl
  have F__law_size := fun_mk (st := s__law_size) l__law_size c__law_size k__law_size
  have b__law_size := F__law_size.binds (ps := ["cell"]) fun _ _ _ _ _ _ us hl => match us, hl with | [_], _ => rfl
  have F__law_row := fun_mk (st := s__law_row) l__law_row c__law_row k__law_row
  have b__law_row := F__law_row.binds (ps := ["script", "start", "size", "way"]) fun _ _ _ _ _ _ us hl => match us, hl with | [_, _, _, _], _ => rfl
  have F__law_whole := fun_mk (st := s__law_whole) l__law_whole c__law_whole k__law_whole
  have b__law_whole := F__law_whole.binds (ps := ["x"]) fun _ _ _ _ _ _ us hl => match us, hl with | [_], _ => rfl
  have F__law_list := fun_mk (st := s__law_list) l__law_list c__law_list k__law_list
  have b__law_list := F__law_list.binds (ps := ["found", "due"]) fun _ _ _ _ _ _ us hl => match us, hl with | [_, _], _ => rfl
  have F__law_order := fun_mk (st := s__law_order) l__law_order c__law_order k__law_order
  have b__law_order := F__law_order.binds (ps := ["row", "places", "level"]) fun _ _ _ _ _ _ us hl => match us, hl with | [_, _, _], _ => rfl
  have F__law_refused := fun_mk (st := s__law_refused) l__law_refused c__law_refused k__law_refused
  have b__law_refused := F__law_refused.binds (ps := ["row", "cuts"]) fun _ _ _ _ _ _ us hl => match us, hl with | [_, _], _ => rfl
  have F__law_cuts := fun_mk (st := s__law_cuts) l__law_cuts c__law_cuts k__law_cuts
  have b__law_cuts := F__law_cuts.binds (ps := ["cell", "size"]) fun _ _ _ _ _ _ us hl => match us, hl with | [_, _], _ => rfl
  have F_law := fun_mk (st := s_law) l_law c_law k_law
  refine ⟨PySem.W.fnOf "law" "law" (defArgs s_law) (defBody s_law) (defScope s_law) .none kV_law dc_law pm_law an_law cd_law ct_law, fun s v => .of_eq rfl, fun base _ _ => ?_⟩
  have D_longest_rows : Def l.prog w K mg base "longest_rows" 1 ["places"] (spRows K) := ⟨f_longest_rows, _, ok_longest_rows F_longest_rows, PySem.W.mg_of X G a_longest_rows, k_longest_rows, b_longest_rows⟩
  have D_turned_about : Def l.prog w K mg base "turned_about" 1 ["row", "first", "behind"] (spTurn K) := ⟨f_turned_about, _, ok_turned_about F_turned_about T, PySem.W.mg_of X G a_turned_about, k_turned_about, b_turned_about⟩
  have D_order : Def l.prog w K mg base "order" 3 ["levels"] (spOrder K) := ⟨f_order, _, ok_order F_order T T2 D_longest_rows D_turned_about, PySem.W.mg_of X G a_order, k_order, b_order⟩
  have D_check_cuts : Def l.prog w K mg base "check_cuts" 1 ["count", "cuts"] (spCheck K) := ⟨f_check_cuts, _, ok_check_cuts F_check_cuts, PySem.W.mg_of X G a_check_cuts, k_check_cuts, b_check_cuts⟩
  have D_lines : Def l.prog w K mg base "lines" 4 ["levels", "cuts"] (spLines K) := ⟨f_lines, _, ok_lines F_lines T D_check_cuts D_order, PySem.W.mg_of X G a_lines, k_lines, b_lines⟩
  have D__law_cell_at : Def l.prog w K mg base "_law_cell_at" 1 ["script", "k"] (spCell K) := ⟨f__law_cell_at, _, ok_cell_at F__law_cell_at T, PySem.W.mg_of X G a__law_cell_at, k__law_cell_at, b__law_cell_at⟩
  have D__law_pick : Def l.prog w K mg base "_law_pick" 2 ["script", "k"] (spPick K) := ⟨f__law_pick, _, ok_pick F__law_pick T D__law_cell_at, PySem.W.mg_of X G a__law_pick, k__law_pick, b__law_pick⟩
  have D__law_mix : Def l.prog w K mg base "_law_mix" 1 ["cell", "k"] (spMix) := ⟨f__law_mix, _, ok_mix F__law_mix, PySem.W.mg_of X G a__law_mix, k__law_mix, b__law_mix⟩
  have D__law_size : Def l.prog w K mg base "_law_size" 1 ["cell"] (spSize) := ⟨f__law_size, _, ok_size F__law_size, PySem.W.mg_of X G a__law_size, k__law_size, b__law_size⟩
  have D__law_row : Def l.prog w K mg base "_law_row" 3 ["script", "start", "size", "way"] (spRow K) := ⟨f__law_row, _, ok_law_row F__law_row T T2 D__law_pick D__law_mix, PySem.W.mg_of X G a__law_row, k__law_row, b__law_row⟩
  have D__law_whole : Def l.prog w K mg base "_law_whole" 1 ["x"] (spWhole) := ⟨f__law_whole, _, ok_whole F__law_whole T, PySem.W.mg_of X G a__law_whole, k__law_whole, b__law_whole⟩
  have D__law_list : Def l.prog w K mg base "_law_list" 2 ["found", "due"] (spList K) := ⟨f__law_list, _, ok_law_list F__law_list T D__law_whole, PySem.W.mg_of X G a__law_list, k__law_list, b__law_list⟩
  have D__law_order : Def l.prog w K mg base "_law_order" 10 ["row", "places", "level"] (spOrdN K 10) := ⟨f__law_order, _, ok_law_order F__law_order T (PySem.W.mg_of X G a__law_order) k__law_order b__law_order 10, PySem.W.mg_of X G a__law_order, k__law_order, b__law_order⟩
  have D__law_refused : Def l.prog w K mg base "_law_refused" 3 ["row", "cuts"] (spRefusedC K) := ⟨f__law_refused, _, ok_law_refused F__law_refused T (no_lines F_lines T (no_check_cuts F_check_cuts q1 (PySem.W.mg_of X G a_NoCut)) (PySem.W.mg_of X G a_check_cuts) k_check_cuts b_check_cuts) (PySem.W.mg_of X G a_lines) k_lines b_lines (PySem.W.mg_of X G a_NoCut) (PySem.W.mg_of X G a_TurnError) (PySem.W.mg_of X G a_NoMark) (PySem.W.mg_none_of X G z_ValueError) cC x1 x2 x3, PySem.W.mg_of X G a__law_refused, k__law_refused, b__law_refused⟩
  have D__law_cuts : Def l.prog w K mg base "_law_cuts" 2 ["cell", "size"] (spCuts) := ⟨f__law_cuts, _, ok_law_cuts F__law_cuts T T2 D__law_mix, PySem.W.mg_of X G a__law_cuts, k__law_cuts, b__law_cuts⟩
  exact ok_law F_law T T2 D__law_cell_at D__law_row D__law_size D__law_order (Def.mono (k := 20) D_lines (by decide)) D__law_cuts D__law_refused D__law_list
end TS
open PySem PySem.W PyProof.Rows
set_option maxRecDepth 100000 in
set_option maxHeartbeats 0 in
theorem PySem.Challenge.cw_turnscript_k10_lines_holds : PySem.Challenge.rw_turnscript_k10_lines.Holds := by
  w_on; o_law; k_head; (case hw => w_witness2)
  k_fill
  refine LX.walk_law (l := PySem.Challenge.rw_turnscript_k10_lines) (k := 30) rfl rfl ⟨rfl, by decide, by decide⟩ (fun w h Y => PySem.W.kIn_of Y) ?F
  case F =>
    intro w mg fa h KX G hmg
    refine' TS.all_mk KX G hmg ?a_longest_rows ?l_longest_rows ?c_longest_rows ?k_longest_rows ?a_turned_about ?l_turned_about ?c_turned_about ?k_turned_about ?a_order ?l_order ?c_order ?k_order ?a_check_cuts ?l_check_cuts ?c_check_cuts ?k_check_cuts ?a_lines ?l_lines ?c_lines ?k_lines ?a__law_cell_at ?l__law_cell_at ?c__law_cell_at ?k__law_cell_at ?a__law_pick ?l__law_pick ?c__law_pick ?k__law_pick ?a__law_mix ?l__law_mix ?c__law_mix ?k__law_mix ?a__law_size ?l__law_size ?c__law_size ?k__law_size ?a__law_row ?l__law_row ?c__law_row ?k__law_row ?a__law_whole ?l__law_whole ?c__law_whole ?k__law_whole ?a__law_list ?l__law_list ?c__law_list ?k__law_list ?a__law_order ?l__law_order ?c__law_order ?k__law_order ?a__law_refused ?l__law_refused ?c__law_refused ?k__law_refused ?a__law_cuts ?l__law_cuts ?c__law_cuts ?k__law_cuts ?a_law ?l_law ?c_law ?k_law ?z_len ?z_range ?z_list ?z_isinstance ?z_str ?z_int ?z_bool ?z_zip ?z_enumerate ?z_reversed ?z_min ?z_max ?z_sorted ?z_all ?z_set ?z_tuple ?z_any ?z_sum ?a_TurnError ?a_NoMark ?a_NoCut ?z_ValueError ?q1 ?e1 ?e2 ?e3 ?e4 ?e5 ?e6 ?e7 ?e8 ?x1 ?x2 ?x3
    (case a_longest_rows => k_is)
    (case l_longest_rows => k_is)
    (case c_longest_rows => k_is)
    (case k_longest_rows => k_is)
    (case a_turned_about => k_is)
    (case l_turned_about => k_is)
    (case c_turned_about => k_is)
    (case k_turned_about => k_is)
    (case a_order => k_is)
    (case l_order => k_is)
    (case c_order => k_is)
    (case k_order => k_is)
    (case a_check_cuts => k_is)
    (case l_check_cuts => k_is)
    (case c_check_cuts => k_is)
    (case k_check_cuts => k_is)
    (case a_lines => k_is)
    (case l_lines => k_is)
    (case c_lines => k_is)
    (case k_lines => k_is)
    (case a__law_cell_at => k_is)
    (case l__law_cell_at => k_is)
    (case c__law_cell_at => k_is)
    (case k__law_cell_at => k_is)
    (case a__law_pick => k_is)
    (case l__law_pick => k_is)
    (case c__law_pick => k_is)
    (case k__law_pick => k_is)
    (case a__law_mix => k_is)
    (case l__law_mix => k_is)
    (case c__law_mix => k_is)
    (case k__law_mix => k_is)
    (case a__law_size => k_is)
    (case l__law_size => k_is)
    (case c__law_size => k_is)
    (case k__law_size => k_is)
    (case a__law_row => k_is)
    (case l__law_row => k_is)
    (case c__law_row => k_is)
    (case k__law_row => k_is)
    (case a__law_whole => k_is)
    (case l__law_whole => k_is)
    (case c__law_whole => k_is)
    (case k__law_whole => k_is)
    (case a__law_list => k_is)
    (case l__law_list => k_is)
    (case c__law_list => k_is)
    (case k__law_list => k_is)
    (case a__law_order => k_is)
    (case l__law_order => k_is)
    (case c__law_order => k_is)
    (case k__law_order => k_is)
    (case a__law_refused => k_is)
    (case l__law_refused => k_is)
    (case c__law_refused => k_is)
    (case k__law_refused => k_is)
    (case a__law_cuts => k_is)
    (case l__law_cuts => k_is)
    (case c__law_cuts => k_is)
    (case k__law_cuts => k_is)
    (case a_law => k_is)
    (case l_law => k_is)
    (case c_law => k_is)
    (case k_law => k_is)
    (case z_len => k_is)
    (case z_range => k_is)
    (case z_list => k_is)
    (case z_isinstance => k_is)
    (case z_str => k_is)
    (case z_int => k_is)
    (case z_bool => k_is)
    (case z_zip => k_is)
    (case z_enumerate => k_is)
    (case z_reversed => k_is)
    (case z_min => k_is)
    (case z_max => k_is)
    (case z_sorted => k_is)
    (case z_all => k_is)
    (case z_set => k_is)
    (case z_tuple => k_is)
    (case z_any => k_is)
    (case z_sum => k_is)
    (case a_TurnError => k_is)
    (case a_NoMark => k_is)
    (case a_NoCut => k_is)
    (case z_ValueError => k_is)
    (case q1 => k_exc)
    (case e1 => k_is)
    (case e2 => k_is)
    (case e3 => k_is)
    (case e4 => k_is)
    (case e5 => k_is)
    (case e6 => k_is)
    (case e7 => k_is)
    (case e8 => k_is)
    (case x1 => kts_exm)
    (case x2 => kit_is)
    (case x3 => kit_is)
