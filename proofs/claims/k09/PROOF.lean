import PyProof.Rows.All
import Wide.All
import OpenK.AllK
import Wide.FinOn
import Lean
import PyProof.EqAt
import PyProof.EqKinds
import PyProof.TupleCall
import PySem.Challenge.RW_turnscript_k09_carets
set_option Elab.async false
set_option linter.all false
set_option maxRecDepth 100000
namespace L2
open PySem PySem.Spec PyProof.Rows

/-- a key: an int or a str -/
abbrev Key := Sum Int Str
def keyIs : Key → Value → Bool
  | .inl k, v => Value.isInt k v
  | .inr x, v => Value.isStrOf x v
def keyH (w : World) : Key → Int
  | .inl k => hashInt k
  | .inr x => hashStr w x
theorem keyIs_shape : ∀ {k : Key} {v : Value}, keyIs k v = true → (∃ i t, k = Sum.inl i ∧ v = Value.int i t) ∨ (∃ x t, k = Sum.inr x ∧ v = Value.str x t)
  | .inl i, v, h => by
    obtain ⟨t, e⟩ := Value.isInt_shape (k := i) (v := v) h
    exact .inl ⟨i, t, rfl, e⟩
  | .inr x, v, h => by
    obtain ⟨t, e⟩ := Value.isStrOf_shape (x := x) (v := v) h
    exact .inr ⟨x, t, rfl, e⟩
theorem key_ll (a b : Int) : decide ((Sum.inl a : Key) = Sum.inl b) = (a == b) := by
  by_cases e : a = b
  · subst e; simp
  · have h : ¬ (Sum.inl a : Key) = Sum.inl b := fun q => e (Sum.inl.inj q)
    rw [decide_eq_false h]
    exact (beq_eq_false_iff_ne.mpr e).symm
theorem key_rr (a b : Str) : decide ((Sum.inr a : Key) = Sum.inr b) = decide (a = b) := by
  by_cases e : a = b
  · subst e; simp
  · have h : ¬ (Sum.inr a : Key) = Sum.inr b := fun q => e (Sum.inr.inj q)
    rw [decide_eq_false h, decide_eq_false e]
theorem key_lr (a : Int) (b : Str) : decide ((Sum.inl a : Key) = Sum.inr b) = false := decide_eq_false (fun q => nomatch q)
theorem key_rl (a : Str) (b : Int) : decide ((Sum.inr a : Key) = Sum.inl b) = false := decide_eq_false (fun q => nomatch q)

def mixKind (prog : Program) (w : World) : PySem.KeyKind prog w Key where
  is := keyIs
  hash := keyH w
  inj := fun v a b ha hb => by
    rcases keyIs_shape ha with ⟨i, t, rfl, rfl⟩ | ⟨x, t, rfl, rfl⟩
    · rcases keyIs_shape hb with ⟨j, u, rfl, e⟩ | ⟨y, u, rfl, e⟩
      · injection e with e1 _; rw [e1]
      · exact nomatch e
    · rcases keyIs_shape hb with ⟨j, u, rfl, e⟩ | ⟨y, u, rfl, e⟩
      · exact nomatch e
      · injection e with e1 _; rw [e1]
  byValue := fun k v h => by
    rcases keyIs_shape h with ⟨i, t, rfl, rfl⟩ | ⟨x, t, rfl, rfl⟩ <;> rfl
  pyHash := fun hv h => by
    rcases keyIs_shape hv with ⟨i, t, rfl, rfl⟩ | ⟨x, t, rfl, rfl⟩
    · exact wpAny_pyHash_int h
    · exact wpAny_pyHash_str h
  eqBool := fun hu hv h => by
    rcases keyIs_shape hu with ⟨i, t, rfl, rfl⟩ | ⟨x, t, rfl, rfl⟩
    · rcases keyIs_shape hv with ⟨j, u, rfl, rfl⟩ | ⟨y, u, rfl, rfl⟩
      · rw [key_ll] at h; exact wpAny_eqBool_int h
      · rw [key_lr] at h; exact SeqAt.EqAt.int_str i t y u _ _ _ _ h
    · rcases keyIs_shape hv with ⟨j, u, rfl, rfl⟩ | ⟨y, u, rfl, rfl⟩
      · rw [key_rl] at h; exact SeqAt.EqAt.str_int x t j u _ _ _ _ h
      · rw [key_rr] at h; exact wpAny_eqBool_str h
  «strs» := fun k x t v h => by
    rcases keyIs_shape h with ⟨i, u, rfl, e⟩ | ⟨y, u, rfl, e⟩
    · exact nomatch e
    · injection e with e1 _
      subst e1
      cases v <;> rfl

end L2

namespace L2
open PySem PySem.Spec PyProof.Rows

/-- a value, without the heap -/
inductive V where
  | non | bl (b : Bool) | int (i : Int) | str (x : Str) | byt (b : Array UInt8) | flt (b : UInt64) | ref (a : Addr) | ty (n : String)
  deriving DecidableEq

def RelV : V → Value → Prop
  | .non, u => u = Value.none
  | .bl b, u => u = Value.bool b
  | .int i, u => ∃ t, u = Value.int i t
  | .str x, u => ∃ t, u = Value.str x t
  | .byt b, u => ∃ t, u = Value.bytes b t
  | .flt b, u => ∃ t, u = Value.float b t
  | .ref a, u => u = Value.ref a
  | .ty n, u => u = Value.type n

abbrev Vals : List V → List Value → Prop := Paired RelV
theorem Vals.length {xs : List V} {us : List Value} (r : Vals xs us) : xs.length = us.length := Paired.length r
theorem Vals.get : ∀ {xs : List V} {us : List Value} {i : Nat} {x : V}, Vals xs us → xs[i]? = some x → ∃ u, us[i]? = some u ∧ RelV x u
  | _, _, _, _, .nil, e => by simp at e
  | _, _, 0, _, .cons r _, e => by simp at e; subst e; exact ⟨_, rfl, r⟩
  | _, _, i + 1, x, .cons _ t, e => by
    obtain ⟨u, h1, h2⟩ := Vals.get (i := i) (x := x) t (by simpa using e)
    exact ⟨u, by simpa using h1, h2⟩
theorem Vals.set {x : V} {u : Value} (r : RelV x u) : ∀ {xs : List V} {us : List Value} (i : Nat), Vals xs us → Vals (xs.set i x) (us.set i u)
  | _, _, _, .nil => .nil
  | _, _, 0, .cons _ t => .cons r t
  | _, _, i + 1, .cons q t => .cons q (Vals.set r i t)
theorem Vals.append : ∀ {xs ys : List V} {us ws : List Value}, Vals xs us → Vals ys ws → Vals (xs ++ ys) (us ++ ws)
  | _, _, _, _, .nil, s => s
  | _, _, _, _, .cons r t, s => .cons r (Vals.append t s)
theorem Vals.take : ∀ {xs : List V} {us : List Value} (n : Nat), Vals xs us → Vals (xs.take n) (us.take n)
  | _, _, 0, _ => .nil
  | _, _, _ + 1, .nil => .nil
  | _, _, n + 1, .cons r t => .cons r (Vals.take n t)
theorem Vals.drop : ∀ {xs : List V} {us : List Value} (n : Nat), Vals xs us → Vals (xs.drop n) (us.drop n)
  | _, _, 0, r => r
  | _, _, _ + 1, .nil => .nil
  | _, _, n + 1, .cons _ t => Vals.drop n t
def RelO : Option V → Option Value → Prop
  | some v, some u => RelV v u
  | none, none => True
  | _, _ => False
def KV {κ : Type} : List (κ × V) → List (κ × Value) → Prop := Paired fun (p : κ × V) (q : κ × Value) => p.1 = q.1 ∧ RelV p.2 q.2

/-- a key of a dict (00_mix): an int or a text -/
def kV : Key → V
  | .inl i => .int i
  | .inr x => .str x

/-- what stands at a tracked address -/
inductive HO where
  /-- a list -/
  | lst (xs : List V)
  /-- a tuple (never changes) -/
  | tup (xs : List V)
  /-- a dict whose keys are ints and texts; one whose keys are tuples of ints and texts (the empty one is both) -/
  | dK (kvs : List (Key × V)) | dT (kvs : List (List Key × V))
  /-- a set of ints: its members, its size -/
  | set (S : Int → Bool) (n : Nat)
  /-- an instance of the class at C, its dict at dx, its attributes -/
  | ins (C dx : Addr) (fs : List (Str × V))
  /-- the dict of the instance at x -/
  | own (x : Addr)
  /-- the dict of an exception -/
  | xd (fs : List (Str × V))
  /-- a bound method, f of x -/
  | met (f x : Addr)
  /-- a range object lo, lo + 1, .. below hi -/
  | rng (lo hi : Int)
  /-- a thing that is known to the object (the script; a dict while a loop walks it): read, never written while it is so -/
  | frz (o : Obj) (u : HO)
  /-- a code object's table -/
  | tbl (ps : Array Value)
  /-- any other thing, by what is true of its one object (a def of one's own: SetO a S n := HO.ext fun h => ..) -/
  | ext (φ : Heap → Prop)

abbrev Hp := Addr → Option HO
def upd (H : Hp) (a : Addr) (o : HO) : Hp := fun b => if b = a then some o else H b
theorem upd_same {H : Hp} {a : Addr} {o : HO} : upd H a o a = some o := by unfold upd; rw [if_pos rfl]
theorem upd_ne {H : Hp} {a b : Addr} {o : HO} (h : b ≠ a) : upd H a o b = H b := by unfold upd; rw [if_neg h]
theorem upd_upd {H : Hp} {a : Addr} {o u : HO} : upd (upd H a o) a u = upd H a u := by
  funext b; unfold upd; split <;> rfl
theorem ne_of_none {H : Hp} {a b : Addr} {o : HO} (h : H a = some o) (h' : H b = none) : a ≠ b := by
  intro e; subst e; rw [h] at h'; cases h'

section
variable (P : Program) (w : World)
def ObjOk (H : Hp) (h : Heap) (a : Addr) : HO → Prop
  | .lst xs => xs.length ≤ sizeLine ∧ ∃ (its : List Value) (n : Nat), Vals xs its ∧ h.get? a = some { cls := .type "list", data := .seq its.toArray n }
  | .tup xs => xs.length ≤ sizeLine ∧ ∃ its : List Value, Vals xs its ∧ IsTup h a its.toArray
  | .dK kvs => kvs.length ≤ sizeLine ∧ (a == sysModules) = false ∧ ∃ vs, KV kvs vs ∧ h.DictOf (mixKind P w) a vs
  | .dT kvs => kvs.length ≤ sizeLine ∧ (a == sysModules) = false ∧ ∃ xs : List (List Key × Addr × Value),
      Paired (fun (p : List Key × V) (q : List Key × Addr × Value) => p.1 = q.1 ∧ H q.2.1 = some (.tup (p.1.map kV)) ∧ RelV p.2 q.2.2) kvs xs ∧
      ∃ o es ep, h.get? a = some o ∧ o.ExactDict ∧ o.data = .dict es ep ∧ es.toList = xs.map (entryOfKey (tupleKind (mixKind P w))) ∧ (xs.map (·.1)).Nodup
  | .set S n => h.SetOf (intKind P w) a S n
  | .ins C dx fs => H dx = some (.own a) ∧ fs.length ≤ 1000 ∧ dx ≠ a ∧ h.get? a = some (PySem.W.instObj C dx) ∧
      ∃ mA, h.Ns1 dx mA ∧ (∀ f, RelO (fs.lookup f) (mA f)) ∧ PySem.Within mA (fs.map (·.1))
  | .own _ => ∃ o, h.get? a = some o
  | .xd fs => ∃ mA, h.Ns1 a mA ∧ ∀ f, RelO (fs.lookup f) (mA f)
  | .rng lo hi => ∃ t u v, h.get? a = some { cls := .type "range", data := .fields #[.int lo t, .int hi u, .int 1 v] }
  | .frz o u => h.get? a = some o ∧ ObjOk H h a u
  | .tbl ps => h.get? a = some { cls := .none, data := .fields ps }
  | .met f x => h.get? a = some (PySem.W.methodObj (.ref f) (.ref x))
  | .ext φ => φ h ∧ (∃ o, h.get? a = some o) ∧ ∀ h1 h2 : Heap, φ h1 → (∀ o, h1.get? a = some o → h2.get? a = some o) → φ h2
/-- the abstract heap is held -/
def HOk (H : Hp) (h : Heap) : Prop := ∀ a o, H a = some o → ObjOk P w H h a o
end

section
variable {P : Program} {w : World} {H H' : Hp} {h h' : Heap} {a : Addr} {o : HO}
theorem ObjOk.lt (x : ObjOk P w H h a o) : a < h.objs.size := by
  cases o with
  | lst xs => obtain ⟨_, _, _, _, e⟩ := x; exact Heap.lt_size e
  | tup xs => obtain ⟨_, _, _, p⟩ := x; exact p.lt
  | dK kvs => obtain ⟨_, _, _, _, o, _, _, e, _⟩ := x; exact Heap.lt_size e
  | dT kvs => obtain ⟨_, _, _, _, o, _, _, e, _⟩ := x; exact Heap.lt_size e
  | set S n => obtain ⟨o, _, _, _, e, _⟩ := x; exact Heap.lt_size e
  | ins C dx fs => obtain ⟨_, _, _, e, _⟩ := x; exact Heap.lt_size e
  | own y => obtain ⟨_, e⟩ := x; exact Heap.lt_size e
  | xd fs => obtain ⟨_, ⟨_, _, _, e, _⟩, _⟩ := x; exact Heap.lt_size e
  | rng lo hi => obtain ⟨_, _, _, e⟩ := x; exact Heap.lt_size e
  | frz ob u => obtain ⟨e, _⟩ := x; exact Heap.lt_size e
  | tbl ps => exact Heap.lt_size (show h.get? a = some _ from x)
  | met f y => exact Heap.lt_size (show h.get? a = some _ from x)
  | ext φ => obtain ⟨_, ⟨_, e⟩, _⟩ := x; exact Heap.lt_size e
theorem Paired.mapP {α β : Type} {F G : α → β → Prop} : ∀ {l₁ : List α} {l₂ : List β}, Paired F l₁ l₂ → (∀ a b, F a b → G a b) → Paired G l₁ l₂
  | _, _, .nil, _ => .nil
  | _, _, .cons r t, f => .cons (f _ _ r) (Paired.mapP t f)
/-- what an object's description leans on: its own object, its own dict, the tuples -/
theorem ObjOk.stay (x : ObjOk P w H h a o) (k : ∀ b u, (b = a ∨ H b = some (.own a)) → h.get? b = some u → h'.get? b = some u)
    (ho : ∀ b, H b = some (.own a) → H' b = some (.own a)) (ht : ∀ b xs, H b = some (.tup xs) → H' b = some (.tup xs)) : ObjOk P w H' h' a o := by
  induction o with
  | lst xs => obtain ⟨z, its, n, r, e⟩ := x; exact ⟨z, its, n, r, k _ _ (.inl rfl) e⟩
  | tup xs => obtain ⟨z, its, r, ob, e, c⟩ := x; exact ⟨z, its, r, ob, k _ _ (.inl rfl) e, c⟩
  | dK kvs => obtain ⟨z, y, vs, r, ob, es, ep, e, c⟩ := x; exact ⟨z, y, vs, r, ob, es, ep, k _ _ (.inl rfl) e, c⟩
  | dT kvs =>
    obtain ⟨z, y, xs, r, ob, es, ep, e, c⟩ := x
    exact ⟨z, y, xs, Paired.mapP r fun p q z => ⟨z.1, ht _ _ z.2.1, z.2.2⟩, ob, es, ep, k _ _ (.inl rfl) e, c⟩
  | set S n => obtain ⟨ob, es, ep, t, e, c⟩ := x; exact ⟨ob, es, ep, t, k _ _ (.inl rfl) e, c⟩
  | ins C dx fs =>
    obtain ⟨d, z, ne, e, mA, ⟨od, es, ep, e2, c⟩, r⟩ := x
    exact ⟨ho _ d, z, ne, k _ _ (.inl rfl) e, mA, ⟨od, es, ep, k _ _ (.inr d) e2, c⟩, r⟩
  | own y => obtain ⟨ob, e⟩ := x; exact ⟨ob, k _ _ (.inl rfl) e⟩
  | xd fs => obtain ⟨mA, ⟨od, es, ep, e, c⟩, r⟩ := x; exact ⟨mA, ⟨od, es, ep, k _ _ (.inl rfl) e, c⟩, r⟩
  | rng lo hi => obtain ⟨t, u, v, e⟩ := x; exact ⟨t, u, v, k _ _ (.inl rfl) e⟩
  | frz ob u ih => obtain ⟨e, q⟩ := x; exact ⟨k _ _ (.inl rfl) e, ih q⟩
  | tbl ps =>
    have e : h.get? a = some { cls := .none, data := .fields ps } := x
    show h'.get? a = some { cls := .none, data := .fields ps }
    exact k a _ (.inl rfl) e
  | met f y =>
    have e : h.get? a = some (PySem.W.methodObj (.ref f) (.ref y)) := x
    show h'.get? a = some (PySem.W.methodObj (.ref f) (.ref y))
    exact k a _ (.inl rfl) e
  | ext φ => obtain ⟨p, ⟨o, e⟩, st⟩ := x; exact ⟨st _ _ p fun o q => k _ _ (.inl rfl) q, ⟨o, k _ _ (.inl rfl) e⟩, st⟩
theorem HOk.lt (x : HOk P w H h) (e : H a = some o) : a < h.objs.size := (x a o e).lt
theorem HOk.fresh (x : HOk P w H h) (e : h.objs.size ≤ a) : H a = none := by
  cases q : H a with
  | none => rfl
  | some u => exact absurd (Nat.lt_of_lt_of_le (x.lt q) e) (Nat.lt_irrefl _)
/-- every object of the heap is kept -/
theorem HOk.kept (x : HOk P w H h) (k : ∀ b u, h.get? b = some u → h'.get? b = some u) : HOk P w H h' := fun a o e =>
  (x a o e).stay (fun b u _ q => k b u q) (fun _ q => q) fun _ _ q => q
/-- a new object is laid and tracked -/
theorem HOk.laid (x : HOk P w H h) (k : ∀ b u, h.get? b = some u → h'.get? b = some u) (hp : h.objs.size ≤ a) (new : ObjOk P w (upd H a o) h' a o) : HOk P w (upd H a o) h' := fun b u e => by
  have hn := x.fresh hp
  by_cases hb : b = a
  · subst hb; rw [upd_same] at e; cases e; exact new
  · rw [upd_ne hb] at e
    exact (x b u e).stay (fun c v _ q => k c v q) (fun c q => by rw [upd_ne (ne_of_none q hn)]; exact q) fun c xs q => by rw [upd_ne (ne_of_none q hn)]; exact q
end

/-- what may be read as u: it is u, or a known u -/
def Rd (H : Hp) (a : Addr) (u : HO) : Prop := H a = some u ∨ ∃ o, H a = some (.frz o u)
theorem Rd.of {H : Hp} {a : Addr} {u : HO} (h : H a = some u) : Rd H a u := .inl h
theorem Rd.ok {P : Program} {w : World} {H : Hp} {h : Heap} {a : Addr} {u : HO} (r : Rd H a u) (x : HOk P w H h) : ObjOk P w H h a u := by
  rcases r with r | ⟨o, r⟩
  · exact x a u r
  · obtain ⟨_, q⟩ := x a _ r
    exact q
/-- what may be written -/
def Mut : Option HO → Prop
  | some (.lst _) => True
  | some (.dK _) => True
  | some (.dT _) => True
  | some (.set _ _) => True
  | some (.ins _ _ _) => True
  | some (.ext _) => True
  | _ => False
section
variable {P : Program} {w : World} {H : Hp} {h h' : Heap} {x e : Addr} {o' : HO}
/-- the object at e is changed: x itself, or the dict of the instance x -/
theorem HOk.write (ok : HOk P w H h) (mu : Mut (H x)) (he : e = x ∨ H e = some (.own x)) (k : ∀ b u, b ≠ e → h.get? b = some u → h'.get? b = some u) (heo : ∃ u, h'.get? e = some u)
    (new : ObjOk P w (upd H x o') h' x o') : HOk P w (upd H x o') h' := fun b u q => by
  have nown : ∀ c y, H c = some (.own y) → c ≠ x := fun c y r z => by subst z; rw [r] at mu; exact mu
  have ntup : ∀ c xs, H c = some (.tup xs) → c ≠ x := fun c xs r z => by subst z; rw [r] at mu; exact mu
  by_cases hb : b = x
  · subst hb; rw [upd_same] at q; cases q; exact new
  · rw [upd_ne hb] at q
    by_cases hbe : b = e
    · have q' : H b = some (.own x) := by
        rcases he with z | z
        · exact absurd (hbe.trans z) hb
        · rw [hbe]; exact z
      rw [q] at q'; cases q'
      obtain ⟨v, hv⟩ := heo
      exact ⟨v, by rw [hbe]; exact hv⟩
    · refine (ok b u q).stay (fun c v hc r => k c v ?_ r) (fun c r => by rw [upd_ne (nown c b r)]; exact r) fun c xs r => by rw [upd_ne (ntup c xs r)]; exact r
      rcases hc with rfl | hc
      · exact hbe
      · rintro rfl
        rcases he with z | z
        · exact nown c b hc z
        · rw [hc] at z; cases z; exact hb rfl
end

structure Un (fs ex : List Addr) (H H' : Hp) (h h' : Heap) : Prop where
  keep : ∀ b o, h.get? b = some o → H b = none → b ∉ fs → b ∉ ex → h'.get? b = some o
  slot : ∀ b o, h.get? b = some o → H b = none → b ∈ fs → b ∉ ex → ∃ sl, h'.get? b = some { o with slots := sl }
  free : ∀ b o, h.get? b = some o → H b = none → b ∉ ex → H' b = none
  there : ∀ b o, h.get? b = some o → b ∉ ex → ∃ o', h'.get? b = some o'
  tups : ∀ b xs, H b = some (.tup xs) → H' b = some (.tup xs)
  frzs : ∀ b o u, H b = some (.frz o u) → H' b = some (.frz o u)
  tbls : ∀ b ps, H b = some (.tbl ps) → ∃ more, H' b = some (.tbl (ps ++ more))
section
variable {fs fs' ex ex' : List Addr} {H H1 H2 : Hp} {h h1 h2 h' : Heap} {a x e : Addr} {o : HO}
theorem Un.any (u : Un fs ex H H1 h h1) {b : Addr} {ob : Obj} (q : h.get? b = some ob) (n : H b = none) (hx : b ∉ ex) : ∃ sl, h1.get? b = some { ob with slots := sl } := by
  by_cases hb : b ∈ fs
  · exact u.slot b ob q n hb hx
  · exact ⟨ob.slots, u.keep b ob q n hb hx⟩
theorem Un.trans (a : Un fs ex H H1 h h1) (b : Un fs ex H1 H2 h1 h2) : Un fs ex H H2 h h2 where
  keep := fun c ob q n hc hx => b.keep c ob (a.keep c ob q n hc hx) (a.free c ob q n hx) hc hx
  slot := fun c ob q n hc hx => by
    obtain ⟨sl, e1⟩ := a.slot c ob q n hc hx
    obtain ⟨sl', e2⟩ := b.slot c _ e1 (a.free c ob q n hx) hc hx
    exact ⟨sl', e2⟩
  free := fun c ob q n hx => by
    obtain ⟨o', e1⟩ := a.there c ob q hx
    exact b.free c o' e1 (a.free c ob q n hx) hx
  there := fun c ob q hx => by
    obtain ⟨o', e1⟩ := a.there c ob q hx
    exact b.there c o' e1 hx
  tups := fun c xs q => b.tups c xs (a.tups c xs q)
  frzs := fun c ob xs q => b.frzs c ob xs (a.frzs c ob xs q)
  tbls := fun c ps q => by
    obtain ⟨m1, e1⟩ := a.tbls c ps q
    obtain ⟨m2, e2⟩ := b.tbls c _ e1
    exact ⟨m1 ++ m2, by rw [e2, Array.append_assoc]⟩
theorem Un.kept (k : ∀ b u, h.get? b = some u → h'.get? b = some u) : Un fs ex H H h h' :=
  ⟨fun b ob q _ _ _ => k b ob q, fun b ob q _ _ _ => ⟨ob.slots, k b ob q⟩, fun _ _ _ n _ => n, fun b ob q _ => ⟨ob, k b ob q⟩, fun _ _ q => q, fun _ _ _ q => q, fun _ ps q => ⟨#[], by rw [q]; simp⟩⟩
theorem Un.refl : Un fs ex H H h h := Un.kept fun _ _ q => q
theorem Un.laid (k : ∀ b u, h.get? b = some u → h'.get? b = some u) (hp : h.objs.size ≤ a) (hn : H a = none) : Un fs ex H (upd H a o) h h' where
  keep := fun b u q _ _ _ => k b u q
  slot := fun b u q _ _ _ => ⟨u.slots, k b u q⟩
  free := fun b u q n _ => by rw [upd_ne (Nat.ne_of_lt (Nat.lt_of_lt_of_le (Heap.lt_size q) hp))]; exact n
  there := fun b u q _ => ⟨u, k b u q⟩
  tups := fun b xs q => by rw [upd_ne (ne_of_none q hn)]; exact q
  frzs := fun b u xs q => by rw [upd_ne (ne_of_none q hn)]; exact q
  tbls := fun b ps q => ⟨#[], by rw [upd_ne (ne_of_none q hn), q]; simp⟩
theorem Un.write (mu : Mut (H x)) (he : e = x ∨ H e = some (.own x)) (k : ∀ b u, b ≠ e → h.get? b = some u → h'.get? b = some u) (heo : ∃ u, h'.get? e = some u) : Un fs ex H (upd H x o) h h' := by
  have hx : ∀ b, H b = none → b ≠ x := fun b n z => by subst z; rw [n] at mu; exact mu
  have hb : ∀ b, H b = none → b ≠ e := fun b n z => by
    subst z
    rcases he with r | r
    · exact hx b n r
    · rw [n] at r; cases r
  have hm : ∀ b u, H b = some u → ¬ Mut (some u) → b ≠ x := fun b u q nm z => by subst z; rw [q] at mu; exact nm mu
  refine ⟨fun b u q n _ _ => k b u (hb b n) q, fun b u q n _ _ => ⟨u.slots, k b u (hb b n) q⟩, fun b u q n _ => by rw [upd_ne (hx b n)]; exact n, fun b u q _ => ?_,
    fun b xs q => by rw [upd_ne (hm b _ q fun z => z)]; exact q, fun b u xs q => by rw [upd_ne (hm b _ q fun z => z)]; exact q, fun b ps q => ⟨#[], by rw [upd_ne (hm b _ q fun z => z), q]; simp⟩⟩
  by_cases hbe : b = e
  · subst hbe; exact heo
  · exact ⟨u, k b u hbe q⟩
theorem Un.mono (u : Un fs ex H H1 h h1) (hs : ∀ b ∈ fs, b ∈ fs') (hx : ∀ b ∈ ex, b ∈ ex') : Un fs' ex' H H1 h h1 :=
  ⟨fun b ob q n hb he => u.keep b ob q n (fun z => hb (hs b z)) fun z => he (hx b z), fun _ _ q n _ he => u.any q n fun z => he (hx _ z), fun b ob q n he => u.free b ob q n fun z => he (hx b z), fun b ob q he => u.there b ob q fun z => he (hx b z), u.tups, u.frzs, u.tbls⟩
end

def trk (h : Heap) (H : Hp) : List Addr := (List.range h.objs.size).filter fun a => (H a).isSome
def hidT (h : Heap) (H : Hp) : Heap := PySem.W.hideAll h (trk h H)
theorem hidT_size (h : Heap) (H : Hp) : (hidT h H).objs.size = h.objs.size := PySem.W.hideAll_size _ _
theorem hidT_get {h : Heap} {H : Hp} {b : Addr} {o : Obj} (e : h.get? b = some o) (n : H b = none) : (hidT h H).get? b = some o :=
  PySem.W.hideAll_get _ e fun hm => by
    have q : (H b).isSome = true := (List.mem_filter.mp hm).2
    rw [n] at q; simp at q
theorem of_hidT {h : Heap} {H : Hp} {b : Addr} {o : Obj} (e : (hidT h H).get? b = some o) : h.get? b = some o ∧ H b = none := by
  have e' : h.get? b = some o := PySem.W.of_hideAll (trk h H) e
  refine ⟨e', ?_⟩
  cases q : H b with
  | none => rfl
  | some x =>
    have hm : b ∈ trk h H := List.mem_filter.mpr ⟨List.mem_range.mpr (Heap.lt_size e'), by simp [q]⟩
    have z : (hidT h H).get? b = none := PySem.W.hideAll_none (trk h H) hm
    rw [z] at e; cases e

def allNews (g h : Heap) (L : Addr) : List (Addr × Obj) := (List.range h.objs.size).filterMap fun a => if a = L ∨ (g.get? a).isSome = true then none else (h.get? a).map fun o => (a, o)
def rest (g h : Heap) (L d : Addr) : List (Addr × Obj) := (allNews g h L).filter fun p => decide (p.1 ≠ d)
end L2

namespace L2
open PySem PySem.Spec PyProof.Rows

/-- the module's facts, over the base: the heap at the law's entry without what is tracked there -/
structure Mod (K : PySem.W.Frag) (mg : Str → Option Value) (base : Heap) : Prop where
  kin : K.In base
  glob : base.Ns mainGlobals mg
  blt : ∃ mb, base.Ns builtinsNs mb ∧ ∀ x : Str, x ≠ "__name__" → mb x = bootBuiltins x
  nolimit : base.NoLimit

/-- the context: a def's body (or a comprehension's block) running. base: fixed through the whole law; s₀, H₀: the entry; outer: the frames whose slots others may change (a def's callers); stack: all frames that run;
   ex: iterators that were made ahead of the entry and are walked here (a comprehension's); fn: the names whose cells were made at the entry (a def: all; a comprehension's block: its own); calm: not within an except suite; pn: pins that every state bears; xe: what is wanted of an exception that leaves the code -/
structure Cx where
  prog : Program
  w : World
  K : PySem.W.Frag
  mg : Str → Option Value
  base : Heap
  A : Around
  N : List Str
  s₀ : Shared
  H₀ : Hp
  env : Env
  outer : List Env
  stack : List Env
  ex : List Addr
  fn : Str → Bool
  calm : Bool
  pn : List (Addr × Obj)
  xe : Value → Shared → Prop
/-- the callers' frames -/
def frs (l : List Env) : List Addr := l.filterMap (·.frame)
abbrev Cx.fs (X : Cx) : List Addr := frs X.outer

def Vis (sc : Scope) (x : Str) : Prop := sc.names.lookup x = some .local ∨ sc.names.lookup x = some .cell ∨ sc.names.lookup x = some .free
def Loc (sc : Scope) (x : Str) : Prop := sc.names.lookup x = some .local ∨ sc.names.lookup x = some .cell
def Look (env : Env) (h : Heap) (m : Str → Option Value) (x : Str) (u : Value) : Prop :=
  (env.kindOf x = some .local ∧ m x = some u) ∨ ((env.kindOf x = some .cell ∨ env.kindOf x = some .free) ∧ ∃ c, env.cells.lookup x = some c ∧ h.IsCell c (some u))

structure Cx.Ok (X : Cx) : Prop where
  mod : Mod X.K X.mg X.base
  kind : X.env.scope.kind = .function
  glob : X.env.globals = mainGlobals
  blt : X.env.builtins = builtinsNs
  above : X.s₀.heap.objs.size ≤ X.env.locals
  inj : ∀ x y c, X.env.cells.lookup x = some c → X.env.cells.lookup y = some c → x = y
  has : ∀ x, (X.env.kindOf x = some .cell ∨ X.env.kindOf x = some .free) → ∃ c, X.env.cells.lookup x = some c
  cab : ∀ x c, X.fn x = true → X.env.cells.lookup x = some c → X.s₀.heap.objs.size ≤ c
  hd : X.calm = true → X.A.handled = none
  frames : X.A.frames = some X.stack
  stk : X.stack = X.outer ∨ (X.stack = X.env :: X.outer ∧ X.env.frame = some X.env.locals)
  exf : ∀ b ∈ X.ex, b ≠ X.env.locals ∧ ∀ x c, X.env.cells.lookup x = some c → c ≠ b
  bs : ∀ b o, X.base.get? b = some o → X.s₀.heap.get? b = some o ∧ X.H₀ b = none
  bsz : X.base.objs.size ≤ X.s₀.heap.objs.size
  noex : ∀ b o, X.base.get? b = some o → b ∉ X.ex
  exfs : ∀ b ∈ X.ex, b ∉ X.fs
  funs : X.s₀.heap.FunFrames X.base X.outer
  frf : ∀ b ∈ X.fs, X.H₀ b = none

structure Inv (X : Cx) (pins : List (Addr × Obj)) (σ : List (Option V)) (H : Hp) (s : Shared) : Prop where
  ok : X.Ok
  os : s.os = X.s₀.os
  bare : AllBare s.gens
  base : Un X.fs X.ex X.H₀ H X.s₀.heap s.heap
  loc : ∃ m, s.heap.Ns X.env.locals m ∧ ∀ (i : Nat) (x : Str) (v : V), X.N[i]? = some x → σ[i]? = some (some v) → Vis X.env.scope x → ∃ u, RelV v u ∧ Look X.env s.heap m x u
  cell : ∀ x c, X.env.cells.lookup x = some c → ∃ v, s.heap.IsCell c v
  free : H X.env.locals = none
  freeC : ∀ x c, X.env.cells.lookup x = some c → H c = none
  pin : ∀ p ∈ X.pn ++ pins, s.heap.get? p.1 = some p.2 ∧ H p.1 = none ∧ p.1 ≠ X.env.locals ∧ p.1 ∉ X.fs ∧ ∀ v, p.2.data ≠ .cell v
  hok : HOk X.prog X.w H s.heap
  len : σ.length = X.N.length

section
variable {X : Cx} {pins : List (Addr × Obj)} {σ : List (Option V)} {H H' : Hp} {s : Shared} {h' : Heap}

theorem Cx.Ok.nofr (ok : X.Ok) {b : Addr} {o : Obj} (e : X.base.get? b = some o) : b ∉ X.fs := fun hb => by
  have := (ok.funs.mem hb).1
  rw [e] at this; cases this
theorem Inv.bs (I : Inv X pins σ H s) : ∀ b o, X.base.get? b = some o → s.heap.get? b = some o ∧ H b = none := fun b o e =>
  ⟨I.base.keep b o (I.ok.bs b o e).1 (I.ok.bs b o e).2 (I.ok.nofr e) (I.ok.noex b o e), I.base.free b o (I.ok.bs b o e).1 (I.ok.bs b o e).2 (I.ok.noex b o e)⟩
theorem Inv.bk (I : Inv X pins σ H s) : ∀ b o, X.base.get? b = some o → s.heap.get? b = some o := fun b o e => (I.bs b o e).1
theorem Inv.mod (I : Inv X pins σ H s) : Mod X.K X.mg X.base := I.ok.mod
theorem Inv.kIn (I : Inv X pins σ H s) : X.K.In s.heap := I.ok.mod.kin.keeps I.bk
theorem Inv.nolimit (I : Inv X pins σ H s) : s.heap.NoLimit := I.ok.mod.nolimit.keeps I.bk
theorem Inv.lt (I : Inv X pins σ H s) : X.env.locals < s.heap.objs.size := let ⟨_, hn, _⟩ := I.loc; hn.lt
theorem Inv.sz (I : Inv X pins σ H s) : X.s₀.heap.objs.size ≤ s.heap.objs.size := Nat.le_trans I.ok.above (Nat.le_of_lt I.lt)
theorem Inv.nofs (I : Inv X pins σ H s) {a : Addr} (h : s.heap.objs.size ≤ a) : a ∉ X.fs := fun hb => by
  obtain ⟨_, o, ho, _⟩ := I.ok.funs.mem hb
  exact absurd (Nat.lt_of_lt_of_le (Heap.lt_size ho) (Nat.le_trans I.sz h)) (Nat.lt_irrefl _)
theorem Inv.cne (I : Inv X pins σ H s) : ∀ x c, X.env.cells.lookup x = some c → c ≠ X.env.locals := fun x c e z => by
  obtain ⟨v, o, ho, hd⟩ := I.cell x c e
  obtain ⟨m, ⟨o', es, ep, ho', hd', _⟩, _⟩ := I.loc
  rw [z, ho'] at ho; cases ho; rw [hd'] at hd; cases hd
theorem Inv.funs (I : Inv X pins σ H s) : s.heap.FunFrames X.base X.outer := by
  have all : ∀ (l : List Env), (∀ b ∈ frs l, b ∈ X.fs) → X.s₀.heap.FunFrames X.base l → s.heap.FunFrames X.base l := by
    intro l
    induction l with
    | nil => intro _ _; trivial
    | cons env r ih =>
      intro hs hl
      obtain ⟨hk, ⟨L, o, hf, hn, ho, hd⟩, hr⟩ := hl
      have hL : L ∈ X.fs := hs L (by unfold frs; rw [List.filterMap_cons, hf]; exact List.mem_cons_self)
      obtain ⟨sl, e⟩ := I.base.slot L o ho (I.ok.frf L hL) hL fun z => I.ok.exfs L z hL
      exact ⟨hk, ⟨L, _, hf, hn, e, hd⟩, ih (fun b hb => hs b (by unfold frs; rw [List.filterMap_cons, hf]; exact List.mem_cons_of_mem _ hb)) hr⟩
  exact all X.outer (fun _ hb => hb) I.ok.funs

/-- the frames that run, for a call -/
theorem Inv.stack (I : Inv X pins σ H s) : s.heap.FunFrames X.base X.stack := by
  rcases I.ok.stk with e | ⟨e, hf⟩
  · rw [e]; exact I.funs
  · rw [e]
    obtain ⟨m, hn, _⟩ := I.loc
    refine .cons (by rw [I.ok.kind]; decide) hf hn ?_ I.funs
    exact Heap.get?_none_of_le (Nat.le_trans I.ok.bsz I.ok.above)
theorem Inv.stkSub (I : Inv X pins σ H s) : ∀ b ∈ frs X.stack, b ∈ X.env.locals :: X.fs := fun b hb => by
  rcases I.ok.stk with e | ⟨e, hf⟩
  · rw [e] at hb; exact List.mem_cons_of_mem _ hb
  · rw [e] at hb
    unfold frs at hb
    rw [List.filterMap_cons, hf] at hb
    exact hb
theorem Inv.stkFree (I : Inv X pins σ H s) : ∀ b ∈ frs X.stack, H b = none := fun b hb => by
  rcases List.mem_cons.mp (I.stkSub b hb) with e | hb
  · rw [e]; exact I.free
  · obtain ⟨_, o, ho, _⟩ := I.ok.funs.mem hb
    exact I.base.free b o ho (I.ok.frf b hb) fun z => I.ok.exfs b z hb

/-- THE STEP: the untracked objects but the frame and the records at ch are kept (the callers' frames up to slots), the frame's map is kept, the new abstract heap is held -/
theorem Inv.step {g' : Array GenState} {t' : Nat} {d' : Drawn} {ch : List Addr} (I : Inv X pins σ H s)
    (hch : ∀ b ∈ ch, (b ∈ X.ex ∨ X.s₀.heap.objs.size ≤ b) ∧ b ≠ X.env.locals ∧ (∀ x c, X.env.cells.lookup x = some c → c ≠ b) ∧ ∀ p ∈ X.pn ++ pins, p.1 ≠ b)
    (keep : ∀ b o, b ≠ X.env.locals → b ∉ X.fs → b ∉ ch → s.heap.get? b = some o → H b = none → h'.get? b = some o)
    (slot : ∀ b o, b ≠ X.env.locals → b ∈ X.fs → b ∉ ch → s.heap.get? b = some o → H b = none → ∃ sl, h'.get? b = some { o with slots := sl }) (free : ∀ b o, b ∉ ch → s.heap.get? b = some o → H b = none → H' b = none)
    (there : ∀ b o, b ∉ ch → s.heap.get? b = some o → ∃ o', h'.get? b = some o')
    (tups : ∀ b xs, H b = some (.tup xs) → H' b = some (.tup xs)) (frzs : ∀ b o u, H b = some (.frz o u) → H' b = some (.frz o u)) (tbls : ∀ b ps, H b = some (.tbl ps) → ∃ more, H' b = some (.tbl (ps ++ more)))
    (ns : ∀ m, s.heap.Ns X.env.locals m → h'.Ns X.env.locals m) (hok : HOk X.prog X.w H' h') (hg : AllBare g') :
    Inv X pins σ H' { s with heap := h', gens := g', drawn := d', toks := t' } := by
  have neL : ∀ b o, X.s₀.heap.get? b = some o → b ≠ X.env.locals := fun b o e => Nat.ne_of_lt (Nat.lt_of_lt_of_le (Heap.lt_size e) I.ok.above)
  have neC : ∀ b o, X.s₀.heap.get? b = some o → b ∉ X.ex → b ∉ ch := fun b o e hx hb => by
    rcases (hch b hb).1 with z | z
    · exact hx z
    · exact absurd (Nat.lt_of_lt_of_le (Heap.lt_size e) z) (Nat.lt_irrefl _)
  have cellK : ∀ x c, X.env.cells.lookup x = some c → ∀ v, s.heap.IsCell c v → h'.IsCell c v := fun x c e v ⟨o, ho, hd⟩ => by
    have nch : c ∉ ch := fun z => (hch c z).2.2.1 x c e rfl
    by_cases hc : c ∈ X.fs
    · obtain ⟨sl, q⟩ := slot c o (I.cne x c e) hc nch ho (I.freeC x c e)
      exact ⟨_, q, hd⟩
    · exact ⟨o, keep c o (I.cne x c e) hc nch ho (I.freeC x c e), hd⟩
  refine ⟨I.ok, I.os, hg, ⟨fun b o e n hb hx => ?_, fun b o e n hb hx => ?_, fun b o e n hx => ?_, fun b o e hx => ?_, fun b xs e => tups b xs (I.base.tups b xs e), fun b o xs e => frzs b o xs (I.base.frzs b o xs e), fun b ps e => ?_⟩, ?_, fun x c e => ?_, ?_, fun x c e => ?_, fun p hp => ?_, hok, I.len⟩
  · exact keep b o (neL b o e) hb (neC b o e hx) (I.base.keep b o e n hb hx) (I.base.free b o e n hx)
  · obtain ⟨sl, e1⟩ := I.base.slot b o e n hb hx
    obtain ⟨sl', e2⟩ := slot b _ (neL b o e) hb (neC b o e hx) e1 (I.base.free b o e n hx)
    exact ⟨sl', e2⟩
  · obtain ⟨o', e1⟩ := I.base.there b o e hx
    exact free b o' (neC b o e hx) e1 (I.base.free b o e n hx)
  · obtain ⟨o', e1⟩ := I.base.there b o e hx
    exact there b o' (neC b o e hx) e1
  · obtain ⟨m1, e1⟩ := I.base.tbls b ps e
    obtain ⟨m2, e2⟩ := tbls b _ e1
    exact ⟨m1 ++ m2, by rw [e2, Array.append_assoc]⟩
  · obtain ⟨m, hn, hl⟩ := I.loc
    refine ⟨m, ns m hn, fun i x v e1 e2 e3 => ?_⟩
    obtain ⟨u, r, l⟩ := hl i x v e1 e2 e3
    refine ⟨u, r, ?_⟩
    rcases l with l | ⟨k, c, e, z⟩
    · exact .inl l
    · exact .inr ⟨k, c, e, cellK x c e _ z⟩
  · obtain ⟨v, z⟩ := I.cell x c e
    exact ⟨v, cellK x c e v z⟩
  · obtain ⟨m, ⟨o, _, _, ho, _⟩, _⟩ := I.loc
    exact free _ o (fun z => (hch _ z).2.1 rfl) ho I.free
  · obtain ⟨v, o, ho, hd⟩ := I.cell x c e
    exact free c o (fun z => (hch c z).2.2.1 x c e rfl) ho (I.freeC x c e)
  · obtain ⟨e, n, ne, nf, d⟩ := I.pin p hp
    have nch : p.1 ∉ ch := fun z => (hch p.1 z).2.2.2 p hp rfl
    exact ⟨keep p.1 p.2 ne nf nch e n, free p.1 p.2 nch e n, ne, nf, d⟩
/-- .. where the frame's own object is kept too -/
theorem Inv.un {t' : Nat} (I : Inv X pins σ H s) (u : Un X.fs [] H H' s.heap h') (hok : HOk X.prog X.w H' h') : Inv X pins σ H' { s with heap := h', toks := t' } := by
  obtain ⟨m, ⟨o, es, ep, ho, r⟩, _⟩ := id I.loc
  obtain ⟨sl, hL⟩ := u.any ho I.free (by simp)
  exact I.step (g' := s.gens) (d' := s.drawn) (ch := []) (fun _ z => nomatch z) (fun b o _ hb _ e n => u.keep b o e n hb (by simp)) (fun b o _ hb _ e n => u.slot b o e n hb (by simp)) (fun b o _ e n => u.free b o e n (by simp)) (fun b o _ e => u.there b o e (by simp)) u.tups u.frzs u.tbls (fun m' hm => by
    obtain ⟨o', es', ep', ho', r'⟩ := hm
    rw [ho] at ho'; cases ho'
    exact ⟨_, es', ep', hL, r'⟩) hok I.bare
/-- behind a call (or a comprehension's block): the slots of this frame may have changed too, the records at ch may have turned -/
theorem Inv.call {g' : Array GenState} {t' : Nat} {d' : Drawn} {ch : List Addr} (I : Inv X pins σ H s) (u : Un (frs X.stack) ch H H' s.heap h') (hok : HOk X.prog X.w H' h') (hg : AllBare g')
    (hch : ∀ b ∈ ch, (b ∈ X.ex ∨ X.s₀.heap.objs.size ≤ b) ∧ b ≠ X.env.locals ∧ (∀ x c, X.env.cells.lookup x = some c → c ≠ b) ∧ ∀ p ∈ X.pn ++ pins, p.1 ≠ b) :
    Inv X pins σ H' { s with heap := h', gens := g', drawn := d', toks := t' } := by
  obtain ⟨m, ⟨o, es, ep, ho, r⟩, _⟩ := id I.loc
  obtain ⟨sl, hL⟩ := u.any ho I.free fun z => (hch _ z).2.1 rfl
  exact I.step (ch := ch) hch (fun b o hL hb hc e n => u.keep b o e n (fun z => (List.mem_cons.mp (I.stkSub b z)).elim hL hb) hc) (fun b o _ _ hc e n => u.any e n hc) (fun b o hc e n => u.free b o e n hc) (fun b o hc e => u.there b o e hc) u.tups u.frzs u.tbls (fun m' hm => by
    obtain ⟨o', es', ep', ho', r'⟩ := hm
    rw [ho] at ho'; cases ho'
    exact ⟨_, es', ep', hL, r'⟩) hok hg
/-- an untracked record of ours (an iterator) has turned -/
theorem Inv.turned {t' : Nat} {it : Addr} (I : Inv X pins σ H s) (k : ∀ b o, b ≠ it → s.heap.get? b = some o → h'.get? b = some o) (hn : H it = none) (hL : it ≠ X.env.locals)
    (h1 : it ∈ X.ex ∨ X.s₀.heap.objs.size ≤ it) (h2 : ∀ x c, X.env.cells.lookup x = some c → c ≠ it) (h3 : ∀ p ∈ X.pn ++ pins, p.1 ≠ it) : Inv X pins σ H { s with heap := h', toks := t' } := by
  have nit : ∀ b u, H b = some u → b ≠ it := fun b u e z => by rw [z, hn] at e; cases e
  refine I.step (g' := s.gens) (d' := s.drawn) (ch := [it]) (fun b hb => ?_) (fun b o _ _ hc e _ => k b o (fun z => hc (by simp [z])) e) (fun b o _ _ hc e _ => ⟨o.slots, k b o (fun z => hc (by simp [z])) e⟩) (fun _ _ _ _ n => n)
    (fun b o hc e => ⟨o, k b o (fun z => hc (by simp [z])) e⟩) (fun _ _ e => e) (fun _ _ _ e => e) (fun b ps e => ⟨#[], by rw [e]; simp⟩) (fun m hm => ?_) (fun b u e => ?_) I.bare
  · have e : b = it := by simpa using hb
    subst e
    exact ⟨h1, hL, h2, h3⟩
  · obtain ⟨o, es, ep, ho, r⟩ := hm
    exact ⟨o, es, ep, k _ o (Ne.symm hL) ho, r⟩
  · refine (I.hok b u e).stay (fun c v hc q => k c v ?_ q) (fun _ q => q) fun _ _ q => q
    rcases hc with z | z
    · rw [z]; exact nit b u e
    · exact nit c _ z
theorem Inv.tok (I : Inv X pins σ H s) (t : Nat) : Inv X pins σ H { s with toks := t } := I.un (h' := s.heap) (t' := t) Un.refl I.hok
/-- all objects kept -/
theorem Inv.kept {t' : Nat} (I : Inv X pins σ H s) (k : ∀ b u, s.heap.get? b = some u → h'.get? b = some u) : Inv X pins σ H { s with heap := h', toks := t' } := I.un (Un.kept k) (I.hok.kept k)
/-- a new object laid and tracked -/
theorem Inv.laid {a : Addr} {o : HO} {t' : Nat} (I : Inv X pins σ H s) (k : ∀ b u, s.heap.get? b = some u → h'.get? b = some u) (hp : s.heap.objs.size ≤ a) (new : ObjOk X.prog X.w (upd H a o) h' a o) :
    Inv X pins σ (upd H a o) { s with heap := h', toks := t' } := I.un (Un.laid k hp (I.hok.fresh hp)) (I.hok.laid k hp new)
/-- an object written -/
theorem Inv.write {x e : Addr} {o : HO} {t' : Nat} (I : Inv X pins σ H s) (mu : Mut (H x)) (he : e = x ∨ H e = some (.own x)) (k : ∀ b u, b ≠ e → s.heap.get? b = some u → h'.get? b = some u) (heo : ∃ u, h'.get? e = some u)
    (new : ObjOk X.prog X.w (upd H x o) h' x o) : Inv X pins σ (upd H x o) { s with heap := h', toks := t' } := I.un (Un.write mu he k heo) (I.hok.write mu he k heo new)
theorem Inv.pins_of {pins' : List (Addr × Obj)} (I : Inv X pins σ H s) (h : ∀ p ∈ pins', s.heap.get? p.1 = some p.2 ∧ H p.1 = none ∧ p.1 ≠ X.env.locals ∧ p.1 ∉ X.fs ∧ ∀ v, p.2.data ≠ .cell v) : Inv X pins' σ H s :=
  ⟨I.ok, I.os, I.bare, I.base, I.loc, I.cell, I.free, I.freeC, fun p hp => (List.mem_append.mp hp).elim (fun z => I.pin p (List.mem_append_left _ z)) (h p), I.hok, I.len⟩

theorem nodup_ix {N : List Str} (hN : N.Nodup) {i j : Nat} {x : Str} (a : N[i]? = some x) (b : N[j]? = some x) : i = j := by
  obtain ⟨h1, e1⟩ := List.getElem?_eq_some_iff.mp a
  obtain ⟨h2, e2⟩ := List.getElem?_eq_some_iff.mp b
  exact (List.getElem_inj hN).mp (e1.trans e2.symm)

/-- a name is stored; what changed -/
theorem store_ok2 {M : Model} {A : Around} {E : Value → Shared → Prop} {i : Nat} {x : Str} {v : V} {u : Value} {Q : Unit → Shared → Prop} (I : Inv X pins σ H s) (hN : X.N.Nodup) (hi : X.N[i]? = some x) (hx : Loc X.env.scope x) (r : RelV v u)
    (h : ∀ s', Inv X pins (σ.set i (some v)) H s' → (∃ a, Heap.SameBut a s.heap s'.heap ∧ (a = X.env.locals ∨ X.env.cells.lookup x = some a)) → Q () s') (hf : X.fn x = true ∨ X.env.scope.names.lookup x = some .local := by first | exact .inl rfl | exact .inr rfl | assumption) : wpAny M A (storeName X.env x u) Q E s := by
  obtain ⟨m, hn, hl⟩ := id I.loc
  have hcls : (X.env.scope.kind == .class || (X.env.scope.kind == .module && X.env.locals != X.env.globals)) = false := by rw [I.ok.kind]; rfl
  have hiσ : i < σ.length := by rw [I.len]; exact (List.getElem?_eq_some_iff.mp hi).1
  have cne := I.cne
  have tracked : ∀ {a : Addr} {h' : Heap}, (∃ o, s.heap.get? a = some o ∧ H a = none) → Heap.SameBut a s.heap h' → HOk X.prog X.w H h' := fun {a h'} ha hs b ob e => by
    obtain ⟨_, _, hfree⟩ := ha
    refine (I.hok b ob e).stay (fun c w' hc q => (hs.2 c ?_).trans q) (fun _ q => q) fun _ _ q => q
    rintro rfl
    rcases hc with rfl | hc
    · rw [hfree] at e; cases e
    · rw [hfree] at hc; cases hc
  rcases hx with hk | hk
  · refine wpAny_storeName_local hk hn (fun h' hn' hs => ?_) hcls
    obtain ⟨oL, _, _, hoL, _⟩ := id hn
    refine h _ ⟨I.ok, I.os, I.bare, ⟨fun b o e n hb hx => ?_, fun b o e n hb hx => ?_, I.base.free, fun b o e hx => ?_, I.base.tups, I.base.frzs, I.base.tbls⟩, ⟨_, hn', fun j y v' e1 e2 e3 => ?_⟩, fun y c e => ?_, I.free, I.freeC, fun p hp => ?_, tracked ⟨oL, hoL, I.free⟩ hs, by simpa using I.len⟩ ⟨_, hs, .inl rfl⟩
    · exact (hs.2 b (Nat.ne_of_lt (Nat.lt_of_lt_of_le (Heap.lt_size e) I.ok.above))).trans (I.base.keep b o e n hb hx)
    · obtain ⟨sl, e1⟩ := I.base.slot b o e n hb hx
      exact ⟨sl, (hs.2 b (Nat.ne_of_lt (Nat.lt_of_lt_of_le (Heap.lt_size e) I.ok.above))).trans e1⟩
    · obtain ⟨o', e1⟩ := I.base.there b o e hx
      exact ⟨o', (hs.2 b (Nat.ne_of_lt (Nat.lt_of_lt_of_le (Heap.lt_size e) I.ok.above))).trans e1⟩
    · by_cases hj : j = i
      · subst hj
        rw [hi] at e1; cases e1
        rw [List.getElem?_set_self hiσ] at e2
        cases e2
        exact ⟨u, r, .inl ⟨hk, by simp⟩⟩
      · rw [List.getElem?_set_ne (Ne.symm hj)] at e2
        obtain ⟨u', r', q⟩ := hl j y v' e1 e2 e3
        refine ⟨u', r', ?_⟩
        rcases q with ⟨k, e⟩ | ⟨k, c, e, z⟩
        · refine .inl ⟨k, ?_⟩
          have : y ≠ x := fun e => hj (nodup_ix hN e1 (e ▸ hi))
          simp [this, e]
        · exact .inr ⟨k, c, e, z.sameBut hs (cne y c e)⟩
    · obtain ⟨w', z⟩ := I.cell y c e
      exact ⟨w', z.sameBut hs (cne y c e)⟩
    · obtain ⟨e, n, ne, nf, d⟩ := I.pin p hp
      exact ⟨(hs.2 p.1 ne).trans e, n, ne, nf, d⟩
  · have hfn : X.fn x = true := by
      rcases hf with z | z
      · exact z
      · rw [z] at hk; cases hk
    obtain ⟨c, hc⟩ := I.ok.has x (.inl hk)
    obtain ⟨w', z⟩ := I.cell x c hc
    refine wpAny_storeName_cell I.ok.kind hk hc z (fun h' hc' hs => ?_)
    obtain ⟨oc, hoc, hocd⟩ := id z
    refine h { s with heap := h' } ⟨I.ok, I.os, I.bare, ⟨fun b o e n hb hx => ?_, fun b o e n hb hx => ?_, I.base.free, fun b o e hx => ?_, I.base.tups, I.base.frzs, I.base.tbls⟩, ⟨m, hn.sameBut hs (Ne.symm (cne x c hc)), fun j y v' e1 e2 e3 => ?_⟩, fun y c' e => ?_, I.free, I.freeC, fun p hp => ?_, tracked ⟨oc, hoc, I.freeC x c hc⟩ hs, by simpa using I.len⟩ ⟨c, hs, .inr hc⟩
    · exact (hs.2 b (Nat.ne_of_lt (Nat.lt_of_lt_of_le (Heap.lt_size e) (I.ok.cab x c hfn hc)))).trans (I.base.keep b o e n hb hx)
    · obtain ⟨sl, e1⟩ := I.base.slot b o e n hb hx
      exact ⟨sl, (hs.2 b (Nat.ne_of_lt (Nat.lt_of_lt_of_le (Heap.lt_size e) (I.ok.cab x c hfn hc)))).trans e1⟩
    · obtain ⟨o', e1⟩ := I.base.there b o e hx
      exact ⟨o', (hs.2 b (Nat.ne_of_lt (Nat.lt_of_lt_of_le (Heap.lt_size e) (I.ok.cab x c hfn hc)))).trans e1⟩
    · by_cases hj : j = i
      · subst hj
        rw [hi] at e1; cases e1
        rw [List.getElem?_set_self hiσ] at e2
        cases e2
        exact ⟨u, r, .inr ⟨.inl hk, c, hc, hc'⟩⟩
      · rw [List.getElem?_set_ne (Ne.symm hj)] at e2
        obtain ⟨u', r', q⟩ := hl j y v' e1 e2 e3
        refine ⟨u', r', ?_⟩
        rcases q with q | ⟨k, c', e, z'⟩
        · exact .inl q
        · refine .inr ⟨k, c', e, z'.sameBut hs ?_⟩
          rintro rfl
          exact hj (nodup_ix hN e1 (I.ok.inj _ _ _ e hc ▸ hi))
    · by_cases hcc : c' = c
      · subst hcc; exact ⟨_, hc'⟩
      · obtain ⟨w2, z2⟩ := I.cell y c' e
        exact ⟨w2, z2.sameBut hs hcc⟩
    · obtain ⟨e, n, ne, nf, d⟩ := I.pin p hp
      refine ⟨(hs.2 p.1 ?_).trans e, n, ne, nf, d⟩
      intro q
      rw [q, hoc] at e
      have q' : oc = p.2 := Option.some.inj e
      exact d w' (by rw [← q']; exact hocd)
theorem store_ok {M : Model} {A : Around} {E : Value → Shared → Prop} {i : Nat} {x : Str} {v : V} {u : Value} {Q : Unit → Shared → Prop} (I : Inv X pins σ H s) (hN : X.N.Nodup) (hi : X.N[i]? = some x) (hx : Loc X.env.scope x) (r : RelV v u)
    (h : ∀ s', Inv X pins (σ.set i (some v)) H s' → Q () s') (hf : X.fn x = true ∨ X.env.scope.names.lookup x = some .local := by first | exact .inl rfl | exact .inr rfl | assumption) : wpAny M A (storeName X.env x u) Q E s :=
  store_ok2 I hN hi hx r (fun s' I' _ => h s' I') hf
/-- behind a call or a block, the state as it is -/
theorem Inv.call' {s' : Shared} {ch : List Addr} (I : Inv X pins σ H s) (ho : s'.os = s.os) (u : Un (frs X.stack) ch H H' s.heap s'.heap) (hok : HOk X.prog X.w H' s'.heap) (hg : AllBare s'.gens)
    (hch : ∀ b ∈ ch, (b ∈ X.ex ∨ X.s₀.heap.objs.size ≤ b) ∧ b ≠ X.env.locals ∧ (∀ x c, X.env.cells.lookup x = some c → c ≠ b) ∧ ∀ p ∈ X.pn ++ pins, p.1 ≠ b) : Inv X pins σ H' s' := by
  obtain ⟨h', g', d', t', o'⟩ := s'
  have e : o' = s.os := ho
  subst e
  exact I.call (g' := g') (t' := t') (d' := d') u hok hg hch
end

/-- an exception: its class, its own dict's address (where it has one), the abstract heap behind it -/
abbrev XK := Value → Option Addr → Hp → Prop
abbrev St := List (Option V)
abbrev VK := V → Hp → Prop
/-- an expression's reading; a test's; an argument list's -/
abbrev TE := St → Hp → VK → Prop
abbrev TT := St → Hp → (Bool → Hp → Prop) → Prop
abbrev TA := St → Hp → (List V → Hp → Prop) → Prop
/-- what is wanted behind a statement -/
structure Ends where
  nx : St → Hp → Prop
  rt : VK
  bk : St → Hp → Prop := fun _ _ => False
  ct : St → Hp → Prop := fun _ _ => False
abbrev TS := Ends → St → Hp → Prop

def EP (X : Cx) (pins : List (Addr × Obj)) (σ : St) (Q : VK) (u : Value) (s' : Shared) : Prop := ∃ v H', Inv X pins σ H' s' ∧ RelV v u ∧ Q v H'
def TP (X : Cx) (pins : List (Addr × Obj)) (σ : St) (Q : Bool → Hp → Prop) (b : Bool) (s' : Shared) : Prop := ∃ H', Inv X pins σ H' s' ∧ Q b H'
def AP (X : Cx) (pins : List (Addr × Obj)) (σ : St) (Q : List V → Hp → Prop) (us : List Value) (s' : Shared) : Prop := ∃ vs H', Inv X pins σ H' s' ∧ Vals vs us ∧ Q vs H'
def SP (X : Cx) (pins : List (Addr × Obj)) (D : Ends) (f : Flow) (s' : Shared) : Prop :=
  match f with
  | .next => ∃ σ' H', Inv X pins σ' H' s' ∧ D.nx σ' H'
  | .brk => ∃ σ' H', Inv X pins σ' H' s' ∧ D.bk σ' H'
  | .cont => ∃ σ' H', Inv X pins σ' H' s' ∧ D.ct σ' H'
  | .ret u => ∃ v σ' H', Inv X pins σ' H' s' ∧ RelV v u ∧ D.rt v H'

def PE (X : Cx) (e : Expr) (t : TE) : Prop :=
  ∀ (pins : List (Addr × Obj)) (s : Shared) (σ : St) (H : Hp) (Q : VK), Inv X pins σ H s → t σ H Q → wpAny (model X.prog X.w) X.A (eval e X.env) (EP X pins σ Q) X.xe s
def PT (X : Cx) (e : Expr) (t : TT) : Prop :=
  ∀ (pins : List (Addr × Obj)) (s : Shared) (σ : St) (H : Hp) (Q : Bool → Hp → Prop), Inv X pins σ H s → t σ H Q → wpAny (model X.prog X.w) X.A (isTrue e X.env (eval e X.env)) (TP X pins σ Q) X.xe s
/-- a test whatever its 'whole' is (and, or) -/
def PW (X : Cx) (e : Expr) (t : TT) : Prop :=
  ∀ (whole : Sem Value) (pins : List (Addr × Obj)) (s : Shared) (σ : St) (H : Hp) (Q : Bool → Hp → Prop), Inv X pins σ H s → t σ H Q → wpAny (model X.prog X.w) X.A (isTrue e X.env whole) (TP X pins σ Q) X.xe s
theorem PW.pt {X : Cx} {e : Expr} {t : TT} (h : PW X e t) : PT X e t := h _
/-- an argument list (no star), from the left -/
def PA (X : Cx) (es : List Expr) (t : TA) : Prop :=
  ∀ (pos : Pos) (pins : List (Addr × Obj)) (s : Shared) (σ : St) (H : Hp) (Q : List V → Hp → Prop), Inv X pins σ H s → t σ H Q → wpAny (model X.prog X.w) X.A (spliced (backTo pos (starEach es X.env))) (AP X pins σ Q) X.xe s
def PS (X : Cx) (st : Stmt) (t : TS) : Prop :=
  ∀ (pins : List (Addr × Obj)) (s : Shared) (σ : St) (H : Hp) (D : Ends), Inv X pins σ H s → t D σ H → wpAny (model X.prog X.w) X.A (exec st X.env) (SP X pins D) X.xe s
def PSs (X : Cx) (st : List Stmt) (t : TS) : Prop :=
  ∀ (pins : List (Addr × Obj)) (s : Shared) (σ : St) (H : Hp) (D : Ends), Inv X pins σ H s → t D σ H → wpAny (model X.prog X.w) X.A (execs st X.env) (SP X pins D) X.xe s
/-- weaken the end -/
theorem thn {α : Type} {t : Sem α} {Q Q' : α → Shared → Prop} {M : Model} {A : Around} {E : Value → Shared → Prop} {s : Shared} (h : wpAny M A t Q E s) (hQ : ∀ a s, Q a s → Q' a s) : wpAny M A t Q' E s := wpAny_mono h hQ fun _ _ x => x
end L2

namespace L2
open PySem PySem.Spec PyProof.Rows
section
variable {X : Cx}

def tVar (i : Nat) : TE := fun σ H Q => ∃ v, σ[i]? = some (some v) ∧ Q v H
def tC (v : V) : TE := fun _ H Q => Q v H
theorem pe_var {i : Nat} {x : Str} {pos : Pos} (hN : X.N[i]? = some x) (hv : Vis X.env.scope x) (hd : (x == ("__debug__" : Str)) = false := by decide) (hcd : (x == ("__classdict__" : Str)) = false := by decide) : PE X (.Name x pos) (tVar i) := by
  intro pins s σ H Q I h
  obtain ⟨v, e, h⟩ := h
  obtain ⟨m, hn, hl⟩ := I.loc
  obtain ⟨u, r, l⟩ := hl i x v hN e hv
  have fin : EP X pins σ Q u s := ⟨v, H, I, r, h⟩
  rcases l with ⟨hk, hm⟩ | ⟨hk, c, hc, hcell⟩
  · exact wpAny_Name (wpAny_loadName_local I.ok.kind hk hn hm fin) hd
  · rcases hk with hk | hk
    · exact wpAny_Name (wpAny_loadName_cell I.ok.kind hk hc hcell fin) hd
    · exact wpAny_Name (wpAny_loadName_free I.ok.kind hk hc hcell fin hcd) hd
theorem pe_int {i j pos} : PE X (.Constant (.int i) j pos) (tC (.int i)) := fun _ _ _ H _ I h => wpAny_Constant_int ⟨.int i, H, I.tok _, ⟨_, rfl⟩, h⟩
theorem pe_bl {b j pos} : PE X (.Constant (.bool b) j pos) (tC (.bl b)) := fun _ _ _ H _ I h => Constant_bool ⟨.bl b, H, I, rfl, h⟩
theorem pe_non {j pos} : PE X (.Constant .none j pos) (tC .non) := fun _ _ _ H _ I h => Constant_none ⟨.non, H, I, rfl, h⟩
/-- a global name of the def -/
def Gl (X : Cx) (x : Str) : Prop := X.env.kindOf x = some .globalImplicit
theorem ld_glob {E : Value → Shared → Prop} {pins : List (Addr × Obj)} {s : Shared} {σ : St} {H : Hp} {x : Str} {u : Value} {pos : Pos} {Q : Value → Shared → Prop} (I : Inv X pins σ H s) (hg : Gl X x) (hm : X.mg x = some u) (h : Q u s)
    (hd : (x == ("__debug__" : Str)) = false := by decide) : wpAny (model X.prog X.w) X.A (eval (.Name x pos) X.env) Q E s :=
  Calls.Name_function_global I.ok.kind hg (Calls.loadGlobal_global (by rw [I.ok.glob]; exact I.mod.glob.keeps I.bk) hm h) hd
theorem ld_blt {E : Value → Shared → Prop} {pins : List (Addr × Obj)} {s : Shared} {σ : St} {H : Hp} {x : Str} {u : Value} {pos : Pos} {Q : Value → Shared → Prop} (I : Inv X pins σ H s) (hg : Gl X x) (hm : X.mg x = none) (hv : bootBuiltins x = some u) (h : Q u s)
    (hn : x ≠ "__name__" := by decide) (hd : (x == ("__debug__" : Str)) = false := by decide) : wpAny (model X.prog X.w) X.A (eval (.Name x pos) X.env) Q E s := by
  obtain ⟨mb, h1, h2⟩ := I.mod.blt
  exact Calls.Name_function_global I.ok.kind hg (Calls.loadGlobal_builtin (by rw [I.ok.glob]; exact I.mod.glob.keeps I.bk) hm (by rw [I.ok.blt]; exact h1.keeps I.bk) ((h2 x hn).trans hv) h) hd
theorem pe_bltn {x : Str} {v : V} {u : Value} {pos : Pos} (hg : Gl X x) (hm : X.mg x = none) (hv : bootBuiltins x = some u) (r : RelV v u) (hn : x ≠ "__name__" := by decide) (hd : (x == ("__debug__" : Str)) = false := by decide) : PE X (.Name x pos) (tC v) :=
  fun _ _ _ H _ I h => ld_blt I hg hm hv ⟨v, H, I, r, h⟩ hn hd

variable {a b : Expr} {ta tb : TE} {pos : Pos}
/-- a comparison as a value, as a test -/
def tB (t : TE) : TT := fun σ H Q => t σ H fun x H1 => ∃ c, x = .bl c ∧ Q c H1
/-- an expression whose value is a bool, as a test -/
theorem pt_val {e : Expr} {t : TE} (h : PE X e t) (he : ∀ whole, isTrue e X.env whole = (do let v ← whole; standAt e.pos; holding [v] (truthy v)) := by intro _; rfl) : PT X e (tB t) := by
  intro pins s σ H Q I hw
  refine isTrue_plain (thn (h pins s σ H _ I hw) fun v s1 ⟨x, H1, I1, r1, q1⟩ => ?_) (he _)
  obtain ⟨d, rfl, q⟩ := q1
  cases r1
  exact wpAny_truthy_bool ⟨H1, I1, q⟩

variable {tA tB' : TT} {rest : List Expr}
def tAnd (t u : TT) : TT := fun σ H Q => t σ H fun c H1 => if c = true then u σ H1 Q else Q false H1
def tOr (t u : TT) : TT := fun σ H Q => t σ H fun c H1 => if c = true then Q true H1 else u σ H1 Q
def tNot (t : TT) : TT := fun σ H Q => t σ H fun c H1 => Q (!c) H1
theorem pw_and1 (ha : PT X a tA) : PW X (.BoolOp .And [a] pos) tA := by
  intro wh pins s σ H Q I h
  refine isTrue_and (thn (ha pins s σ H Q I h) fun c s1 e => ?_)
  cases c with
  | true => exact isTrue_and_nil e
  | false => exact e
theorem pw_or1 (ha : PT X a tA) : PW X (.BoolOp .Or [a] pos) tA := by
  intro wh pins s σ H Q I h
  refine isTrue_or (thn (ha pins s σ H Q I h) fun c s1 e => ?_)
  cases c with
  | false => exact isTrue_or_nil e
  | true => exact e
theorem pw_and (ha : PT X a tA) (hb : PW X (.BoolOp .And (b :: rest) pos) tB') : PW X (.BoolOp .And (a :: b :: rest) pos) (tAnd tA tB') := by
  intro wh pins s σ H Q I h
  refine isTrue_and (thn (ha pins s σ H _ I h) fun c s1 ⟨H1, I1, q1⟩ => ?_)
  cases c with
  | true => exact hb wh pins s1 σ H1 Q I1 q1
  | false => exact ⟨H1, I1, q1⟩
theorem pw_or (ha : PT X a tA) (hb : PW X (.BoolOp .Or (b :: rest) pos) tB') : PW X (.BoolOp .Or (a :: b :: rest) pos) (tOr tA tB') := by
  intro wh pins s σ H Q I h
  refine isTrue_or (thn (ha pins s σ H _ I h) fun c s1 ⟨H1, I1, q1⟩ => ?_)
  cases c with
  | true => exact ⟨H1, I1, q1⟩
  | false => exact hb wh pins s1 σ H1 Q I1 q1
theorem pt_not (ha : PT X a tA) : PT X (.UnaryOp .Not a pos) (tNot tA) := by
  intro pins s σ H Q I h
  exact isTrue_not (ha pins s σ H (fun c H1 => Q (!c) H1) I h)
/-- .. as values (bools) -/
def tAndV (ta tb : TE) : TE := fun σ H Q => ta σ H fun x H1 => ∃ c, x = .bl c ∧ if c = true then tb σ H1 Q else Q (.bl false) H1
def tNotV (ta : TE) : TE := fun σ H Q => ta σ H fun x H1 => ∃ c, x = .bl c ∧ Q (.bl (!c)) H1
theorem pe_one {op} {t : TE} (h : PE X a t) : PE X (.BoolOp op [a] pos) t := fun pins s σ H Q I hw => BoolOp_one (h pins s σ H Q I hw)
theorem pe_and (ha : PE X a ta) (hb : PE X (.BoolOp .And (b :: rest) pos) tb) : PE X (.BoolOp .And (a :: b :: rest) pos) (tAndV ta tb) := by
  intro pins s σ H Q I h
  refine BoolOp_and (thn (ha pins s σ H _ I h) fun v s1 ⟨x, H1, I1, r1, q1⟩ => ?_)
  obtain ⟨c, rfl, q1⟩ := q1
  cases r1
  refine wpAny_truthy_bool ?_
  cases c with
  | true => exact hb pins s1 σ H1 Q I1 q1
  | false => exact ⟨.bl false, H1, I1, rfl, q1⟩
theorem pe_not (ha : PE X a ta) : PE X (.UnaryOp .Not a pos) (tNotV ta) := by
  intro pins s σ H Q I h
  refine UnaryOp_ (thn (ha pins s σ H _ I h) fun v s1 ⟨x, H1, I1, r1, q1⟩ => ?_)
  obtain ⟨c, rfl, q1⟩ := q1
  cases r1
  exact not_of (wpAny_truthy_bool ⟨.bl (!c), H1, I1, rfl, q1⟩)
/-- a if t else b -/
def tIf (t : TT) (ta tb : TE) : TE := fun σ H Q => t σ H fun c H1 => if c = true then ta σ H1 Q else tb σ H1 Q
theorem pe_ifExp {c : Expr} (hc : PT X c tA) (ha : PE X a ta) (hb : PE X b tb) : PE X (.IfExp c a b pos) (tIf tA ta tb) := by
  intro pins s σ H Q I h
  refine wpAny_IfExp (thn (hc pins s σ H _ I h) fun d s1 ⟨H1, I1, q1⟩ => ?_)
  cases d with
  | true => exact ha pins s1 σ H1 Q I1 q1
  | false => exact hb pins s1 σ H1 Q I1 q1
end
end L2

namespace L2
open PySem PySem.Spec PyProof.Rows

def SqL (K : PySem.W.Frag) (H : Hp) (a : Addr) (xs : List V) : Prop :=
  Rd H a (.lst xs) ∨
    ∃ (o : Obj) (its : Array Value) (n : Nat), K.lookup a = some o ∧ o.cls = .type "list" ∧ o.dict = none ∧ o.data = .seq its n ∧ its.size ≤ sizeLine ∧ Vals xs its.toList
def SqT (K : PySem.W.Frag) (H : Hp) (a : Addr) (xs : List V) : Prop :=
  Rd H a (.tup xs) ∨
    ∃ (o : Obj) (its : Array Value) (n : Nat), K.lookup a = some o ∧ o.cls = .type "tuple" ∧ o.data = .seq its n ∧ its.size ≤ sizeLine ∧ Vals xs its.toList
def absV : Value → Option V
  | .none => some .non
  | .bool b => some (.bl b)
  | .int i _ => some (.int i)
  | .str x _ => some (.str x)
  | .bytes b _ => some (.byt b)
  | .float b _ => some (.flt b)
  | .ref a => some (.ref a)
  | .type n => some (.ty n)
  | _ => none
theorem RelV.abs {x : V} {u : Value} (r : RelV x u) : absV u = some x := by
  cases x with
  | non => cases r; rfl
  | bl _ => cases r; rfl
  | int _ => obtain ⟨t, rfl⟩ := r; rfl
  | str _ => obtain ⟨t, rfl⟩ := r; rfl
  | byt _ => obtain ⟨t, rfl⟩ := r; rfl
  | flt _ => obtain ⟨t, rfl⟩ := r; rfl
  | ref _ => cases r; rfl
  | ty _ => cases r; rfl
theorem RelV.inj {x y : V} {u : Value} (r : RelV x u) (q : RelV y u) : x = y := Option.some.inj (r.abs.symm.trans q.abs)
theorem Vals.inj : ∀ {xs ys : List V} {us : List Value}, Vals xs us → Vals ys us → xs = ys
  | _, _, _, .nil, .nil => rfl
  | _, _, _, .cons r t, .cons r' t' => by rw [r.inj r', Vals.inj t t']
section
variable {X : Cx} {pins : List (Addr × Obj)} {σ : St} {H : Hp} {s : Shared} {a : Addr} {xs ys : List V}
theorem SqL.of {K : PySem.W.Frag} (h : H a = some (.lst xs)) : SqL K H a xs := .inl (.inl h)
theorem SqT.of {K : PySem.W.Frag} (h : H a = some (.tup xs)) : SqT K H a xs := .inl (.inl h)
theorem Inv.list (I : Inv X pins σ H s) (h : SqL X.K H a xs) : ∃ its : List Value, Vals xs its ∧ PlainL s.heap a its.toArray ∧ xs.length ≤ sizeLine := by
  rcases h with h | ⟨o, its, n, hk, hc, hd, hs, hz, r⟩
  · obtain ⟨z, its, n, r, e⟩ := h.ok I.hok
    exact ⟨its, r, ⟨_, n, e, rfl, rfl, rfl⟩, z⟩
  · refine ⟨its.toList, r, ⟨o, n, I.kIn a o hk, hc, hd, by simpa using hs⟩, ?_⟩
    have e := r.length
    simp only [Array.length_toList] at e
    omega
theorem Inv.tuple (I : Inv X pins σ H s) (h : SqT X.K H a xs) : ∃ its : List Value, Vals xs its ∧ IsTup s.heap a its.toArray ∧ xs.length ≤ sizeLine := by
  rcases h with h | ⟨o, its, n, hk, hc, hs, hz, r⟩
  · obtain ⟨z, its, r, p⟩ := h.ok I.hok
    exact ⟨its, r, p, z⟩
  · refine ⟨its.toList, r, ⟨o, I.kIn a o hk, hc, n, by simpa using hs⟩, ?_⟩
    have e := r.length
    simp only [Array.length_toList] at e
    omega
theorem Inv.list_inj (I : Inv X pins σ H s) (h : SqL X.K H a xs) (h' : SqL X.K H a ys) : xs = ys := by
  obtain ⟨its, r, ⟨o, n, e, _, _, d⟩, _⟩ := I.list h
  obtain ⟨its', r', ⟨o', n', e', _, _, d'⟩, _⟩ := I.list h'
  rw [e] at e'; cases e'
  rw [d] at d'
  injection d' with d1 _
  have : its = its' := by simpa using congrArg Array.toList d1
  subst this
  exact r.inj r'
end

abbrev Cx.wish (X : Cx) (E : Value → Shared → Prop) : Cx := { X with xe := E }
/-- no exception leaves -/
abbrev Cx.nox (X : Cx) : Cx := X.wish fun _ _ => False
theorem Cx.Ok.wish {X : Cx} (ok : X.Ok) (E : Value → Shared → Prop) : (X.wish E).Ok :=
  ⟨ok.mod, ok.kind, ok.glob, ok.blt, ok.above, ok.inj, ok.has, ok.cab, ok.hd, ok.frames, ok.stk, ok.exf, ok.bs, ok.bsz, ok.noex, ok.exfs, ok.funs, ok.frf⟩
theorem Cx.Ok.unwish {X : Cx} {E : Value → Shared → Prop} (ok : (X.wish E).Ok) : X.Ok :=
  ⟨ok.mod, ok.kind, ok.glob, ok.blt, ok.above, ok.inj, ok.has, ok.cab, ok.hd, ok.frames, ok.stk, ok.exf, ok.bs, ok.bsz, ok.noex, ok.exfs, ok.funs, ok.frf⟩
section
variable {X : Cx} {pins : List (Addr × Obj)} {σ : St} {H : Hp} {s : Shared} {E : Value → Shared → Prop}
theorem Inv.wish (I : Inv X pins σ H s) (E : Value → Shared → Prop) : Inv (X.wish E) pins σ H s := ⟨I.ok.wish E, I.os, I.bare, I.base, I.loc, I.cell, I.free, I.freeC, I.pin, I.hok, I.len⟩
theorem Inv.unwish (I : Inv (X.wish E) pins σ H s) : Inv X pins σ H s := ⟨I.ok.unwish, I.os, I.bare, I.base, I.loc, I.cell, I.free, I.freeC, I.pin, I.hok, I.len⟩
theorem SP.unwish {D : Ends} {f : Flow} {s' : Shared} (h : SP (X.wish E) pins D f s') : SP X pins D f s' := by
  cases f with
  | next => obtain ⟨σ', H', I, q⟩ := h; exact ⟨σ', H', I.unwish, q⟩
  | brk => obtain ⟨σ', H', I, q⟩ := h; exact ⟨σ', H', I.unwish, q⟩
  | cont => obtain ⟨σ', H', I, q⟩ := h; exact ⟨σ', H', I.unwish, q⟩
  | ret u => obtain ⟨v, σ', H', I, r, q⟩ := h; exact ⟨v, σ', H', I.unwish, r, q⟩
theorem PE.nox {e : Expr} {t : TE} (h : PE X.nox e t) : PE X e t := fun pins s σ H Q I hw =>
  wpAny_mono (h pins s σ H Q (I.wish _) hw) (fun _ _ ⟨v, H', I', r, q⟩ => ⟨v, H', I'.unwish, r, q⟩) fun _ _ z => False.elim z
theorem PT.nox {e : Expr} {t : TT} (h : PT X.nox e t) : PT X e t := fun pins s σ H Q I hw =>
  wpAny_mono (h pins s σ H Q (I.wish _) hw) (fun _ _ ⟨H', I', q⟩ => ⟨H', I'.unwish, q⟩) fun _ _ z => False.elim z
theorem PSs.nox {st : List Stmt} {t : TS} (h : PSs X.nox st t) : PSs X st t := fun pins s σ H D I hw =>
  wpAny_mono (h pins s σ H D (I.wish _) hw) (fun _ _ q => q.unwish) fun _ _ z => False.elim z
end

section
variable {X : Cx} {st : Stmt} {rest : List Stmt} {t u : TS} {e : Expr} {te : TE} {pos : Pos}
def tNext : TS := fun D σ H => D.nx σ H
def tSeq (t u : TS) : TS := fun D σ H => t { D with nx := u D } σ H
theorem pss_nil : PSs X [] tNext := fun _ _ σ H _ I h => wpAny_execs_nil ⟨σ, H, I, h⟩
theorem pss_cons (h1 : PS X st t) (h2 : PSs X rest u) : PSs X (st :: rest) (tSeq t u) := by
  intro pins s σ H D I h
  refine wpAny_execs_cons (thn (h1 pins s σ H { D with nx := u D } I h) fun f s1 q => ?_)
  cases f with
  | next =>
    obtain ⟨σ', H', I', q⟩ := q
    exact h2 pins s1 σ' H' D I' q
  | ret v => exact q
  | brk => exact q
  | cont => exact q
theorem pss_one (h1 : PS X st t) : PSs X [st] t := by
  intro pins s σ H D I h
  refine wpAny_execs_cons (thn (h1 pins s σ H D I h) fun f s1 q => ?_)
  cases f with
  | next => exact wpAny_execs_nil q
  | ret v => exact q
  | brk => exact q
  | cont => exact q
/-- in a def's body nothing is shown -/
theorem Inv.quiet {pins : List (Addr × Obj)} {σ : St} {H : Hp} {s : Shared} (I : Inv X pins σ H s) : interactive X.env = false := by simp [interactive, I.ok.kind]
/-- an expression whose value is dropped -/
def tDrop (te : TE) : TS := fun D σ H => te σ H fun _ H1 => D.nx σ H1
theorem ps_expr (he : PE X e te) (hs : swapsWith e none pos.line X.env = pure false := by rfl) : PS X (.Expr e pos) (tDrop te) := by
  intro pins s σ H D I h
  exact wpAny_Expr_any (thn (he pins s σ H _ I h) fun v s1 ⟨x, H1, I1, r1, q1⟩ => ⟨σ, H1, I1, q1⟩) I.quiet hs
def tRet (te : TE) : TS := fun D σ H => te σ H D.rt
theorem ps_ret (he : PE X e te) : PS X (.Return (some e) pos) (tRet te) := by
  intro pins s σ H D I h
  exact wpAny_Return_some (thn (he pins s σ H _ I h) fun v s1 ⟨x, H1, I1, r1, q1⟩ => ⟨x, σ, H1, I1, r1, q1⟩)
def tIfS (c : TT) (t u : TS) : TS := fun D σ H => c σ H fun b H1 => if b = true then t D σ H1 else u D σ H1
theorem ps_if {c : Expr} {a b : List Stmt} {tc : TT} (hc : PT X c tc) (ha : PSs X a t) (hb : PSs X b u) : PS X (.If c a b pos) (tIfS tc t u) := by
  intro pins s σ H D I h
  refine wpAny_If (thn (hc pins s σ H _ I h) fun d s1 ⟨H1, I1, q1⟩ => ?_)
  cases d with
  | true => exact ha pins s1 σ H1 D I1 q1
  | false => exact hb pins s1 σ H1 D I1 q1
end

abbrev TG := V → St → Hp → (St → Hp → Prop) → Prop
abbrev TGs := List V → St → Hp → (St → Hp → Prop) → Prop
def PG (X : Cx) (target : Expr) (t : TG) : Prop :=
  ∀ (pins : List (Addr × Obj)) (s : Shared) (σ : St) (H : Hp) (v : V) (u : Value) (Q : St → Hp → Prop), Inv X pins σ H s → RelV v u → t v σ H Q →
    wpAny (model X.prog X.w) X.A (assign target X.env u) (fun _ s' => ∃ σ' H', Inv X pins σ' H' s' ∧ Q σ' H') X.xe s
/-- several targets, one after another -/
def PGs (X : Cx) (ts : List Expr) (t : TGs) : Prop :=
  ∀ (pins : List (Addr × Obj)) (s : Shared) (σ : St) (H : Hp) (vs : List V) (us : List Value) (Q : St → Hp → Prop), Inv X pins σ H s → Vals vs us → t vs σ H Q →
    wpAny (model X.prog X.w) X.A (assignInOrder ((assignEach ts X.env).map (·.2)) us) (fun _ s' => ∃ σ' H', Inv X pins σ' H' s' ∧ Q σ' H') X.xe s
/-- o[i] = v, by values -/
abbrev TSet := V → V → V → Hp → (Hp → Prop) → Prop
def PSet (X : Cx) (t : TSet) : Prop :=
  ∀ (pins : List (Addr × Obj)) (s : Shared) (σ : St) (H : Hp) (o i v : V) (ov iv u : Value) (Q : Hp → Prop), Inv X pins σ H s → RelV o ov → RelV i iv → RelV v u → t o i v H Q →
    wpAny (model X.prog X.w) X.A (setItem ov iv u) (fun _ s' => ∃ H', Inv X pins σ H' s' ∧ Q H') X.xe s
section
variable {X : Cx} {pos : Pos}
def gName (i : Nat) : TG := fun v σ H Q => Q (σ.set i (some v)) H
theorem pg_name {i : Nat} {x : Str} (hN : X.N.Nodup) (hi : X.N[i]? = some x) (hx : Loc X.env.scope x) (hf : X.fn x = true ∨ X.env.scope.names.lookup x = some .local := by first | exact .inl rfl | exact .inr rfl | assumption) : PG X (.Name x pos) (gName i) := by
  intro pins s σ H v u Q I r h
  exact wpAny_assign_Name (store_ok I hN hi hx r (fun s' I' => ⟨_, H, I', h⟩) hf)
def gNil : TGs := fun vs σ H Q => vs = [] ∧ Q σ H
def gCons (t : TG) (u : TGs) : TGs := fun vs σ H Q => ∃ v r, vs = v :: r ∧ t v σ H fun σ' H' => u r σ' H' Q
theorem pgs_nil : PGs X [] gNil := by
  intro pins s σ H vs us Q I r h
  obtain ⟨e, h⟩ := h
  subst e
  cases r
  exact assignInOrder_nil ⟨σ, H, I, h⟩
theorem pgs_cons {e : Expr} {es : List Expr} {t : TG} {u : TGs} (h1 : PG X e t) (h2 : PGs X es u)
    (hs : (assignEach (e :: es) X.env).map (·.2) = assign e X.env :: (assignEach es X.env).map (·.2) := by rfl) : PGs X (e :: es) (gCons t u) := by
  intro pins s σ H vs us Q I r h
  obtain ⟨v, vr, e1, h⟩ := h
  subst e1
  cases r with
  | cons r rr =>
    rw [hs]
    refine assignInOrder_cons (thn (h1 pins s σ H _ _ _ I r h) fun _ s1 ⟨σ1, H1, I1, q1⟩ => ?_)
    exact h2 pins s1 σ1 H1 _ _ Q I1 rr q1
/-- (a, b, ..) = a tuple of that length -/
def gTup (K : PySem.W.Frag) (n : Nat) (t : TGs) : TG := fun v σ H Q => ∃ a xs, v = .ref a ∧ SqT K H a xs ∧ xs.length = n ∧ t xs σ H Q
theorem pg_tup {es : List Expr} {k : Nat} {t : TGs} {n : Nat} (hc : X.calm = true) (h : PGs X es t)
    (hn : (assignEach es X.env).length = n := by rfl) (hst : (assignEach es X.env).findIdx? (·.1) = none := by rfl) : PG X (.Tuple es k pos) (gTup X.K n t) := by
  intro pins s σ H v u Q I r hw
  obtain ⟨a, xs, e1, hq, hl, hw⟩ := hw
  subst e1
  cases r
  obtain ⟨its, rv, ht, hz⟩ := I.tuple hq
  refine assign_Tuple_tuple (I.ok.hd hc) ht (by simp [hn, ← hl, rv.length]) hst fun h' hx => ?_
  have I1 : Inv X pins σ H { s with heap := h' } := I.kept (t' := s.toks) fun b o e => hx b o (Nat.ne_of_lt (Heap.lt_size e)) e
  exact h pins _ σ H xs _ Q I1 (by simpa using rv) hw
/-- o[i] = .. -/
def gSub (to ti : TE) (t : TSet) : TG := fun v σ H Q => to σ H fun o H1 => ti σ H1 fun i H2 => t o i v H2 fun H3 => Q σ H3
theorem pg_sub {o i : Expr} {to ti : TE} {t : TSet} (ho : PE X o to) (hi : PE X i ti) (hs : PSet X t)
    (ha : ∀ v, assign (.Subscript o i pos) X.env v = (do
      let ov ← holding [v] (eval o X.env)
      let iv ← holding [v, ov] (eval i X.env)
      standAt pos
      holding [v, ov, iv] (setItem ov iv v)
      release [v, ov, iv] []) := by intro _; rfl) : PG X (.Subscript o i pos) (gSub to ti t) := by
  intro pins s σ H v u Q I r h
  rw [ha]
  refine wpAny_bind (wpAny_holding (thn (ho pins s σ H _ I h) fun ov s1 ⟨x, H1, I1, r1, q1⟩ => ?_))
  refine wpAny_bind (wpAny_holding (thn (hi pins s1 σ H1 _ I1 q1) fun iv s2 ⟨y, H2, I2, r2, q2⟩ => ?_))
  refine wpAny_bind (wpAny_standAt (wpAny_bind (wpAny_holding (thn (hs pins s2 σ H2 x y v ov iv u _ I2 r1 r2 r q2) fun _ s3 ⟨H3, I3, q3⟩ => ?_))))
  exact wpAny_release ⟨σ, H3, I3, q3⟩
/-- target = value -/
def tAsg (te : TE) (g : TG) : TS := fun D σ H => te σ H fun x H1 => g x σ H1 D.nx
theorem ps_asg {tg e : Expr} {te : TE} {g : TG} (he : PE X e te) (hg : PG X tg g) (hs : swapsWithSole [tg] e pos.line X.env = pure false := by rfl) (hw : swappedStores [tg] e X.env = pure none := by rfl)
    (h1 : (assignEach [tg] X.env).map (·.2) = [assign tg X.env] := by rfl) : PS X (.Assign [tg] e pos) (tAsg te g) := by
  intro pins s σ H D I h
  refine wpAny_Assign_stores (thn (he pins s σ H _ I h) fun v s1 ⟨x, H1, I1, r1, q1⟩ => ?_) hs hw
  rw [h1]
  exact thn (hg pins s1 σ H1 x v _ I1 r1 q1) fun _ s2 q => q
/-- name = value -/
theorem ps_set {i : Nat} {x : Str} {e : Expr} {te : TE} {pos' : Pos} (hN : X.N.Nodup) (hi : X.N[i]? = some x) (hx : Loc X.env.scope x) (he : PE X e te) (hs : swapsWith e (some (.Name x pos')) pos.line X.env = pure false := by rfl) (hf : X.fn x = true ∨ X.env.scope.names.lookup x = some .local := by first | exact .inl rfl | exact .inr rfl | assumption) :
    PS X (.Assign [.Name x pos'] e pos) (tAsg te (gName i)) := by
  intro pins s σ H D I h
  refine wpAny_Assign_Name (thn (he pins s σ H _ I h) fun v s1 ⟨y, H1, I1, r1, q1⟩ => ?_) hs
  exact store_ok I1 hN hi hx r1 (fun s2 I2 => ⟨_, H1, I2, q1⟩) hf
end

section
variable {X : Cx} {pos : Pos}
/-- the invariant W with its measure -/
def tWhile (c : TT) (tb : TS) : TS := fun D σ H => ∃ W : Nat → St → Hp → Prop, (∃ m, W m σ H) ∧ ∀ m σ H, W m σ H →
  c σ H fun b H1 => if b = true then ∃ N : St → Hp → Prop, (∀ σ' H', N σ' H' → ∃ m', m' < m ∧ W m' σ' H') ∧ tb { D with nx := N, ct := N, bk := D.nx } σ H1 else D.nx σ H1
theorem ps_while {c : Expr} {body : List Stmt} {tc : TT} {tb : TS} (hp : PassesOwn (model X.prog X.w) X.A X.env X.xe) (hc : PT X c tc) (hb : PSs X body tb) : PS X (.While c body [] pos) (tWhile tc tb) := by
  intro pins s σ H D I h
  obtain ⟨W, ⟨m0, w0⟩, turn⟩ := h
  refine wpAny_While (codeAny_whileLoop (fun n s' => ∃ σ' H', Inv X pins σ' H' s' ∧ W n σ' H') ?_ m0 ⟨σ, H, I, w0⟩)
  rintro n s1 ⟨σ1, H1, I1, w1⟩
  refine wpAny_passesOwn hp (thn (hc pins s1 σ1 H1 _ I1 (turn n σ1 H1 w1)) fun b s2 ⟨H2, I2, q2⟩ => ?_)
  cases b with
  | true =>
    obtain ⟨N, hN, q2⟩ := q2
    rw [if_pos rfl]
    refine wpAny_passesOwn hp (thn (hb pins s2 σ1 H2 _ I2 q2) fun f s3 q3 => ?_)
    cases f with
    | next =>
      obtain ⟨σ3, H3, I3, n3⟩ := q3
      obtain ⟨m', hm, w3⟩ := hN σ3 H3 n3
      exact ⟨m', hm, σ3, H3, I3, w3⟩
    | cont =>
      obtain ⟨σ3, H3, I3, n3⟩ := q3
      obtain ⟨m', hm, w3⟩ := hN σ3 H3 n3
      exact ⟨m', hm, σ3, H3, I3, w3⟩
    | brk => exact q3
    | ret v => exact q3
  | false =>
    rw [if_neg Bool.false_ne_true]
    exact wpAny_execs_nil ⟨σ1, H2, I2, q2⟩
end

/-- at turn i: it yields x (the heap may grow), or it stops -/
structure It where
  go : Nat → Hp → Prop
  yld : Nat → Hp → V → Hp → Prop
  stop : Nat → Hp → Prop
/-- the iterator's own objects may turn: they are not the frame's, not pinned, younger than the entry (or a comprehension's own) -/
def FpOk (X : Cx) (pins : List (Addr × Obj)) (H : Hp) (b : Addr) : Prop :=
  H b = none ∧ b ≠ X.env.locals ∧ b ∉ X.fs ∧ (b ∈ X.ex ∨ X.s₀.heap.objs.size ≤ b) ∧ (∀ x c, X.env.cells.lookup x = some c → c ≠ b) ∧ ∀ p ∈ X.pn ++ pins, p.1 ≠ b
theorem Inv.fpOk {X : Cx} {pins : List (Addr × Obj)} {σ : St} {H H' : Hp} {s : Shared} {b : Addr} (I : Inv X pins σ H s) (hb : s.heap.objs.size ≤ b) (hn : H' b = none) : FpOk X pins H' b := by
  refine ⟨hn, Nat.ne_of_gt (Nat.lt_of_lt_of_le I.lt hb), I.nofs hb, .inr (Nat.le_trans I.sz hb), fun x c e z => ?_, fun p hp z => ?_⟩
  · obtain ⟨v, q⟩ := I.cell x c e
    exact absurd (Nat.lt_of_lt_of_le q.lt (by rw [z]; exact hb)) (Nat.lt_irrefl _)
  · exact absurd (Nat.lt_of_lt_of_le (Heap.lt_size (I.pin p hp).1) (by rw [z]; exact hb)) (Nat.lt_irrefl _)
structure Turn (P : Program) (w : World) (K : PySem.W.Frag) (tg : Expr) (J : It) (fp : List Addr) (it : Addr) (tn : Nat → Heap → Prop) : Prop where
  mem : it ∈ fp
  obj : ∀ i h, tn i h → ∀ b ∈ fp, ∃ o, h.get? b = some o ∧ ∀ v, o.data ≠ .cell v
  keep : ∀ i h h', tn i h → (∀ b ∈ fp, ∀ o, h.get? b = some o → h'.get? b = some o) → tn i h'
  item : ∀ (X : Cx), X.prog = P → X.w = w → X.K = K → X.calm = true → ∀ (i : Nat) (pins : List (Addr × Obj)) (s : Shared) (σ : St) (H : Hp) (E : Value → Shared → Prop), Inv X pins σ H s → (∀ b ∈ fp, FpOk X pins H b) → tn i s.heap → J.go i H →
    wpAny (model P w) X.A (pyNext (.ref it)) (fun r s1 => ∃ u, r = some u ∧
      wpAny (model P w) X.A (letOwnedTupleGo tg (.ref it) u) (fun _ s2 => ∃ x H', Inv X pins σ H' s2 ∧ RelV x u ∧ J.yld i H x H' ∧ tn (i + 1) s2.heap ∧ ∀ b ∈ fp, H' b = none) E s1) E s
  done : ∀ (X : Cx), X.prog = P → X.w = w → X.K = K → X.calm = true → ∀ (i : Nat) (pins : List (Addr × Obj)) (s : Shared) (σ : St) (H : Hp) (E : Value → Shared → Prop), Inv X pins σ H s → (∀ b ∈ fp, FpOk X pins H b) → tn i s.heap → J.stop i H →
    wpAny (model P w) X.A (pyNext (.ref it)) (fun r s1 => r = none ∧ Inv X pins σ H s1) E s
  self : ∀ (A : Around) (i : Nat) (s : Shared) (Q : Value → Shared → Prop) (E : Value → Shared → Prop), tn i s.heap → Q (.ref it) s → wpAny (model P w) A (pyIter (.ref it)) Q E s
abbrev TI := St → Hp → (It → Hp → Prop) → Prop
/-- an iterator has come -/
def PIE (X : Cx) (pins : List (Addr × Obj)) (σ : St) (tg : Expr) (R : It → Hp → Prop) (itv : Value) (s2 : Shared) : Prop :=
  ∃ (it : Addr) (fp : List Addr) (tn : Nat → Heap → Prop) (J : It) (H' : Hp), itv = .ref it ∧ Inv X pins σ H' s2 ∧ Turn X.prog X.w X.K tg J fp it tn ∧ tn 0 s2.heap ∧ (∀ b ∈ fp, FpOk X pins H' b) ∧ R J H'
def PI (X : Cx) (tg iter : Expr) (wi : TI) : Prop :=
  ∀ (pins : List (Addr × Obj)) (s : Shared) (σ : St) (H : Hp) (R : It → Hp → Prop), Inv X pins σ H s → wi σ H R →
    wpAny (model X.prog X.w) X.A (eval iter X.env) (fun v s1 => wpAny (model X.prog X.w) X.A (pyIter v) (PIE X pins σ tg R) X.xe s1) X.xe s

/-- the step ahead of the store is nothing for an iterator that keeps no tuple -/
theorem go_of {M : Model} {A : Around} {E : Value → Shared → Prop} {s : Shared} {tg : Expr} {it : Addr} {u : Value} {o : Obj} {n : String} {vs : Array Value} {Q : Unit → Shared → Prop} (ho : s.heap.get? it = some o) (hc : o.cls = .type n) (hd : o.data = .fields vs)
    (hn : ["enumerate", "zip", "dict_itemiterator", "dict_reverseitemiterator", "odict_iterator", "itertools.zip_longest", "itertools.pairwise"].contains n = false) (hQ : Q () s) : wpAny M A (letOwnedTupleGo tg (.ref it) u) Q E s := by
  unfold letOwnedTupleGo
  cases tg <;> first
    | exact wpAny_pure hQ
    | (cases u <;> first
        | exact wpAny_pure hQ
        | (refine wpAny_bind (wpAny_load ho ?_)
           rw [hc, hd]
           show wpAny M A (if (["enumerate", "zip", "dict_itemiterator", "dict_reverseitemiterator", "odict_iterator", "itertools.zip_longest", "itertools.pairwise"].contains n && vs[0]? == some (rawInt _)) = true then _ else _) Q E s
           rw [if_neg (by intro h; rw [hn, Bool.false_and] at h; cases h)]
           exact wpAny_pure hQ))

/-- the list at a, as it stands at each turn (a loop may append to it) -/
def Itl (K : PySem.W.Frag) (a : Addr) : It :=
  ⟨fun i H => ∃ xs x, SqL K H a xs ∧ xs[i]? = some x, fun i H x H' => H' = H ∧ ∀ xs, SqL K H a xs → xs[i]? = some x, fun i H => ∃ xs, SqL K H a xs ∧ xs.length ≤ i⟩
/-- lo, lo + 1, .. (n of them) -/
def Itr (lo : Int) (n : Nat) : It := ⟨fun i _ => i < n, fun i H x H' => H' = H ∧ x = .int (lo + i), fun i _ => n ≤ i⟩
theorem turn_list {P : Program} {w : World} {K : PySem.W.Frag} {tg : Expr} (a it : Addr) : Turn P w K tg (Itl K a) [it] it (fun i h => h.IsListIter it a i) where
  mem := by simp
  obj := fun i h st b hb => by
    have e : b = it := by simpa using hb
    subst e
    obtain ⟨o, e, c, d⟩ := st
    exact ⟨o, e, fun v z => by rw [d] at z; cases z⟩
  keep := fun i h h' st k => st.at fun o e => k it (by simp) o e
  item := by
    intro X hP hw hK hc i pins s σ H E I hf st hg
    subst hP hw hK
    obtain ⟨xs, x, hq, hx⟩ := hg
    obtain ⟨its, rv, p, hz⟩ := I.list hq
    obtain ⟨u, hu, ru⟩ := rv.get hx
    obtain ⟨f0, f1, f2, f3, f4, f5⟩ := hf it (by simp)
    refine wpAny_pyNext_list_item st p.isList (x := u) (by simpa using hu) fun h' st' sb => ?_
    have I1 : Inv X pins σ H { s with heap := h' } := I.turned (t' := s.toks) (fun b o hb e => (sb.2 b hb).trans e) f0 f1 f3 f4 f5
    obtain ⟨o, e, c, d⟩ := id st'
    exact ⟨u, rfl, go_of (s := { s with heap := h' }) e c d (by decide) ⟨x, H, I1, ru, ⟨rfl, fun ys hy => by rw [I.list_inj hy hq]; exact hx⟩, st', fun b hb => (hf b hb).1⟩⟩
  done := by
    intro X hP hw hK hc i pins s σ H E I hf st hg
    subst hP hw hK
    obtain ⟨xs, hq, hx⟩ := hg
    obtain ⟨its, rv, p, hz⟩ := I.list hq
    obtain ⟨f0, f1, f2, f3, f4, f5⟩ := hf it (by simp)
    have hl := rv.length
    exact wpAny_pyNext_list_end (I.ok.hd hc) st p.isList (by simp; omega) fun h' eb => ⟨rfl, I.turned (t' := s.toks) (fun b o hb e => eb b o hb e) f0 f1 f3 f4 f5⟩
  self := fun _ _ _ _ _ st h => wpAny_pyIter_listiter st h
theorem turn_range {P : Program} {w : World} {K : PySem.W.Frag} {tg : Expr} (it : Addr) (lo : Int) (n : Nat) : Turn P w K tg (Itr lo n) [it] it (fun i h => IsRangeIter h it (lo + (i : Nat) * 1) ((n : Int) - (i : Nat)) 1) where
  mem := by simp
  obj := fun i h st b hb => by
    have e : b = it := by simpa using hb
    subst e
    exact ⟨_, st, fun v z => by
      have z' : Data.fields _ = Data.cell v := z
      cases z'⟩
  keep := fun i h h' st k => k it (by simp) _ st
  item := by
    intro X hP hw hK hc i pins s σ H E I hf st hg
    subst hP hw hK
    obtain ⟨f0, f1, f2, f3, f4, f5⟩ := hf it (by simp)
    have W := Walks.range (prog := X.prog) (w := X.w) (I.ok.hd hc) it lo 1 n
    refine W.item i s _ _ hg st fun v h' tk hv st' kk => ?_
    obtain ⟨t, rfl⟩ := hv
    have I1 : Inv X pins σ H { s with heap := h', toks := tk } := I.turned (fun b o hb e => kk b o (by simpa using hb) e) f0 f1 f3 f4 f5
    refine ⟨_, rfl, go_of (s := { s with heap := h', toks := tk }) (n := "range_iterator") st' rfl rfl (by decide) ⟨.int (lo + i), H, I1, ⟨t, ?_⟩, ⟨rfl, rfl⟩, st', fun b hb => (hf b hb).1⟩⟩
    rw [Int.mul_one]
  done := by
    intro X hP hw hK hc i pins s σ H E I hf st hg
    subst hP hw hK
    obtain ⟨f0, f1, f2, f3, f4, f5⟩ := hf it (by simp)
    exact wpAny_pyNext_range_end (I.ok.hd hc) st (by have : n ≤ i := hg; omega) fun h' eb => ⟨rfl, I.turned (t' := s.toks) (fun b o hb e => eb b o hb e) f0 f1 f3 f4 f5⟩
  self := fun _ _ _ _ _ st h => wpAny_pyIter_rangeiter st h
end L2

namespace L2
open PySem PySem.Spec PyProof.Rows
section
variable {X : Cx} {tg : Expr}
def iList (K : PySem.W.Frag) (tl : TE) : TI := fun σ H R => tl σ H fun x H1 => ∃ a, x = .ref a ∧ (∃ xs, SqL K H1 a xs) ∧ R (Itl K a) H1
theorem pi_list {l : Expr} {tl : TE} (hl : PE X l tl) : PI X tg l (iList X.K tl) := by
  intro pins s σ H R I h
  refine thn (hl pins s σ H _ I h) fun v s1 ⟨x, H1, I1, r1, q1⟩ => ?_
  obtain ⟨a, e, ⟨xs, hq⟩, q⟩ := q1
  subst e
  cases r1
  obtain ⟨its, rv, p, hz⟩ := I1.list hq
  refine wpAny_pyIter_list p.isList ?_
  refine ⟨s1.heap.objs.size, [s1.heap.objs.size], _, _, H1, rfl, I1.kept (t' := s1.toks) fun b o e => Heap.get?_push_of_some _ e, turn_list a _, ⟨_, Heap.get?_push_size _ rfl, rfl, rfl⟩, fun b hb => ?_, q⟩
  have e : b = s1.heap.objs.size := by simpa using hb
  subst e
  exact I1.fpOk (Nat.le_refl _) (I1.hok.fresh (Nat.le_refl _))
/-- a range object just made, walked -/
theorem range_it {pins : List (Addr × Obj)} {σ : St} {H : Hp} {s : Shared} {R : It → Hp → Prop} {E : Value → Shared → Prop} {lo hi : Int} {t u v : Tok} {tk : Nat} (I : Inv X pins σ H s) (h1 : -(2 ^ 62) ≤ lo) (h2 : lo < 2 ^ 62) (h3 : -(2 ^ 62) ≤ hi) (h4 : hi < 2 ^ 62)
    (q : R (Itr lo (hi - lo).toNat) H) : wpAny (model X.prog X.w) X.A (pyIter (.ref s.heap.objs.size)) (PIE X pins σ tg R) E { s with heap := s.heap.push { cls := .type "range", data := .fields #[.int lo t, .int hi u, .int 1 v] }, toks := tk } := by
  refine wpAny_pyIter_range (IsRange.new ..) (small_one h1 h2 h3 h4) ?_
  have I1 : Inv X pins σ H { s with heap := s.heap.push { cls := .type "range", data := .fields #[.int lo t, .int hi u, .int 1 v] }, toks := tk } := I.kept fun b o e => Heap.get?_push_of_some _ e
  refine ⟨(s.heap.push { cls := .type "range", data := .fields #[.int lo t, .int hi u, .int 1 v] }).objs.size, [(s.heap.push { cls := .type "range", data := .fields #[.int lo t, .int hi u, .int 1 v] }).objs.size], _, _, H, rfl,
    I1.kept (t' := tk) fun b o e => Heap.get?_push_of_some _ e, turn_range _ lo (hi - lo).toNat, ?_, fun b hb => ?_, q⟩
  · have e1 : lo + ((0 : Nat) : Int) * 1 = lo := by simp
    have e2 : (((hi - lo).toNat : Nat) : Int) - ((0 : Nat) : Int) = Builtin.Range.rangeSize lo hi 1 := by rw [rangeSize_one]; split <;> omega
    show IsRangeIter _ _ (lo + ((0 : Nat) : Int) * 1) ((((hi - lo).toNat : Nat) : Int) - ((0 : Nat) : Int)) 1
    rw [e1, e2]
    exact Heap.get?_push_size _ rfl
  · have e : b = (s.heap.push { cls := .type "range", data := .fields #[.int lo t, .int hi u, .int 1 v] }).objs.size := by simpa using hb
    subst e
    exact I1.fpOk (Nat.le_refl _) (I1.hok.fresh (Nat.le_refl _))
def iRng1 (ta : TA) : TI := fun σ H R => ta σ H fun vs H1 => ∃ j : Int, vs = [.int j] ∧ -(2 ^ 62) ≤ j ∧ j < 2 ^ 62 ∧ R (Itr 0 j.toNat) H1
def iRng2 (ta : TA) : TI := fun σ H R => ta σ H fun vs H1 => ∃ i j : Int, vs = [.int i, .int j] ∧ (-(2 ^ 62) ≤ i ∧ i < 2 ^ 62 ∧ -(2 ^ 62) ≤ j ∧ j < 2 ^ 62) ∧ R (Itr i (j - i).toNat) H1
theorem pi_range1 {a : Expr} {ta : TA} {p pos : Pos} (hg : Gl X "range") (hm : X.mg "range" = none) (ha : PA X [a] ta) (hs : starEach [a] X.env = [(false, eval a X.env)] := by rfl) : PI X tg (.Call (.Name "range" p) [a] [] pos) (iRng1 ta) := by
  intro pins s σ H R I h
  refine Call_ (ld_blt I hg hm boot_range (PyProof.Rows.callWith_type1 (thn (ha pos pins s σ H _ I h) fun us s1 ⟨vs, H1, I1, r1, q1⟩ => ?_) hs rfl))
  obtain ⟨j, e, q1, q2, q⟩ := q1
  subst e
  cases r1 with
  | cons r rr =>
    cases rr
    obtain ⟨t, rfl⟩ := r
    exact call_range_1 (range_it I1 (by omega) (by omega) q1 q2 (by simpa using q))
theorem pi_range2 {a b : Expr} {ta : TA} {p pos : Pos} (hg : Gl X "range") (hm : X.mg "range" = none) (ha : PA X [a, b] ta) (hs : starEach [a, b] X.env = [(false, eval a X.env), (false, eval b X.env)] := by rfl) (hs2 : starEach [b] X.env = [(false, eval b X.env)] := by rfl) :
    PI X tg (.Call (.Name "range" p) [a, b] [] pos) (iRng2 ta) := by
  intro pins s σ H R I h
  refine Call_ (ld_blt I hg hm boot_range (PyProof.Rows.callWith_type1 (thn (ha pos pins s σ H _ I h) fun us s1 ⟨vs, H1, I1, r1, q1⟩ => ?_) (by rw [hs, hs2]) (by rw [hs2]; rfl)))
  obtain ⟨i, j, e, ⟨q1, q2, q3, q4⟩, q⟩ := q1
  subst e
  cases r1 with
  | cons r rr =>
    cases rr with
    | cons r' rr =>
      cases rr
      obtain ⟨t, rfl⟩ := r
      obtain ⟨t', rfl⟩ := r'
      exact call_range_2 (range_it I1 q1 q2 q3 q4 q)

/-- W: the invariant by the turn and a measure; N: what the body is to reach -/
def tFor (wi : TI) (g : TG) (tb : TS) : TS := fun D σ H => wi σ H fun J H1 => ∃ W : Nat → Nat → St → Hp → Prop, (∃ m, W 0 m σ H1) ∧ ∀ i m σ H, W i m σ H →
  (J.stop i H ∧ D.nx σ H) ∨ (J.go i H ∧ ∃ N : St → Hp → Prop, (∀ σ' H', N σ' H' → ∃ m', m' < m ∧ W (i + 1) m' σ' H') ∧ ∀ x H', J.yld i H x H' → g x σ H' fun σ2 H2 => tb { D with nx := N, ct := N, bk := D.nx } σ2 H2)
/-- the records at fp as they stand -/
def pinsAt (fp : List Addr) (h : Heap) : List (Addr × Obj) := fp.filterMap fun b => (h.get? b).map fun o => (b, o)
theorem mem_pinsAt {fp : List Addr} {h : Heap} {b : Addr} {o : Obj} (hb : b ∈ fp) (e : h.get? b = some o) : (b, o) ∈ pinsAt fp h := List.mem_filterMap.mpr ⟨b, hb, by rw [e]; rfl⟩
theorem of_pinsAt {fp : List Addr} {h : Heap} {p : Addr × Obj} (hp : p ∈ pinsAt fp h) : p.1 ∈ fp ∧ h.get? p.1 = some p.2 := by
  obtain ⟨b, hb, e⟩ := List.mem_filterMap.mp hp
  cases q : h.get? b with
  | none => rw [q] at e; cases e
  | some o =>
    rw [q] at e
    have e' : (b, o) = p := Option.some.inj e
    subst e'
    exact ⟨hb, q⟩
theorem Inv.pinned {pins : List (Addr × Obj)} {σ : St} {H : Hp} {s : Shared} {fp : List Addr} (I : Inv X pins σ H s) (hf : ∀ b ∈ fp, FpOk X pins H b) (ho : ∀ b ∈ fp, ∃ o, s.heap.get? b = some o ∧ ∀ v, o.data ≠ .cell v) : Inv X (pins ++ pinsAt fp s.heap) σ H s :=
  I.pins_of fun p hp => (List.mem_append.mp hp).elim (fun z => I.pin p (List.mem_append_right _ z)) fun z => by
    obtain ⟨hb, e⟩ := of_pinsAt z
    obtain ⟨f0, f1, f2, _⟩ := hf p.1 hb
    obtain ⟨o, e', d⟩ := ho p.1 hb
    rw [e] at e'; cases e'
    exact ⟨e, f0, f1, f2, d⟩
theorem Inv.unpinned {pins pl : List (Addr × Obj)} {σ : St} {H : Hp} {s : Shared} (I : Inv X (pins ++ pl) σ H s) : Inv X pins σ H s := I.pins_of fun p hp => I.pin p (List.mem_append_right _ (List.mem_append_left _ hp))
theorem ps_for {iter : Expr} {body : List Stmt} {wi : TI} {g : TG} {tb : TS} {pos : Pos} (hp : PassesOwn (model X.prog X.w) X.A X.env X.xe) (hc : X.calm = true) (hi : PI X tg iter wi) (hg : PG X tg g) (hb : PSs X body tb)
    (hs : ∀ x, foldedSetIterable iter X.env x = pure x := by intro _; rfl) : PS X (.For tg iter body [] pos) (tFor wi g tb) := by
  intro pins s σ H D I h
  refine wpAny_For (thn (hi pins s σ H _ I h) fun v s1 h1 => thn h1 fun itv s2 h2 => ?_) hs
  obtain ⟨it, fp, tn, J, H2, e, I2, T, st2, f2, W, ⟨m0, w0⟩, turn⟩ := h2
  subst e
  -- what stays true of the iterator's objects through the loop
  have stat : ∀ {H' : Hp}, (∀ b ∈ fp, H' b = none) → ∀ b ∈ fp, FpOk X pins H' b := fun hn b hb => ⟨hn b hb, (f2 b hb).2⟩
  refine codeAny_forLoop_any (fun n s' => ∃ i σ' H', Inv X pins σ' H' s' ∧ tn i s'.heap ∧ (∀ b ∈ fp, H' b = none) ∧ W i n σ' H') ?_ m0 ⟨0, σ, H2, I2, st2, fun b hb => (f2 b hb).1, w0⟩
  rintro n s3 ⟨i, σ3, H3, I3, st3, fr3, w3⟩
  rcases turn i n σ3 H3 w3 with ⟨stop, qn⟩ | ⟨go, N, hN, step⟩
  · refine wpAny_passesOwn hp (thn (T.done X rfl rfl rfl hc i pins s3 σ3 H3 X.xe I3 (stat fr3) st3 stop) fun r s4 ⟨hr, I4⟩ => ?_)
    subst hr
    exact wpAny_execs_nil ⟨σ3, H3, I4, qn⟩
  · refine wpAny_passesOwn hp (thn (T.item X rfl rfl rfl hc i pins s3 σ3 H3 X.xe I3 (stat fr3) st3 go) fun r s4 ⟨u, hr, h4⟩ => ?_)
    subst hr
    refine wpAny_passesOwn hp (thn h4 fun _ s5 ⟨x, H5, I5, r5, y5, st5, fr5⟩ => ?_)
    have I5' := I5.pinned (stat fr5) (T.obj _ _ st5)
    refine wpAny_passesOwn hp (thn (hg _ s5 σ3 H5 x u _ I5' r5 (step x H5 y5)) fun _ s6 ⟨σ6, H6, I6, q6⟩ => ?_)
    refine wpAny_passesOwn hp (thn (hb _ s6 σ6 H6 _ I6 q6) fun f s7 q7 => ?_)
    have again : ∀ {σ7 : St} {H7 : Hp}, Inv X (pins ++ pinsAt fp s5.heap) σ7 H7 s7 → N σ7 H7 → ∃ m, m < n ∧ ∃ i σ' H', Inv X pins σ' H' s7 ∧ tn i s7.heap ∧ (∀ b ∈ fp, H' b = none) ∧ W i m σ' H' := fun {σ7 H7} I7 n7 => by
      obtain ⟨m', hm, w7⟩ := hN σ7 H7 n7
      refine ⟨m', hm, i + 1, σ7, H7, I7.unpinned, T.keep _ _ _ st5 fun b hb o e => (I7.pin (b, o) (List.mem_append_right _ (List.mem_append_right _ (mem_pinsAt hb e)))).1, fun b hb => ?_, w7⟩
      obtain ⟨o, e, d⟩ := T.obj _ _ st5 b hb
      exact (I7.pin (b, o) (List.mem_append_right _ (List.mem_append_right _ (mem_pinsAt hb e)))).2.1
    cases f with
    | next => obtain ⟨σ7, H7, I7, n7⟩ := q7; exact again I7 n7
    | cont => obtain ⟨σ7, H7, I7, n7⟩ := q7; exact again I7 n7
    | brk => obtain ⟨σ7, H7, I7, q7⟩ := q7; exact ⟨σ7, H7, I7.unpinned, q7⟩
    | ret v => obtain ⟨x7, σ7, H7, I7, r7, q7⟩ := q7; exact ⟨x7, σ7, H7, I7.unpinned, r7, q7⟩
end

/-- over a list that the body leaves as it is -/
theorem for_list {K : PySem.W.Frag} {a : Addr} {xs : List V} {g : TG} {tb : TS} {D : Ends} {σ : St} {H : Hp} (Pv : Nat → St → Hp → Prop) (h0 : Pv 0 σ H) (hl : ∀ i σ H, i ≤ xs.length → Pv i σ H → SqL K H a xs)
    (hs : ∀ i x σ H, xs[i]? = some x → Pv i σ H → g x σ H fun σ2 H2 => tb { D with nx := Pv (i + 1), ct := Pv (i + 1), bk := D.nx } σ2 H2) (hd : ∀ σ H, Pv xs.length σ H → D.nx σ H) :
    ∃ W : Nat → Nat → St → Hp → Prop, (∃ m, W 0 m σ H) ∧ ∀ i m σ H, W i m σ H →
      ((Itl K a).stop i H ∧ D.nx σ H) ∨ ((Itl K a).go i H ∧ ∃ N : St → Hp → Prop, (∀ σ' H', N σ' H' → ∃ m', m' < m ∧ W (i + 1) m' σ' H') ∧ ∀ x H', (Itl K a).yld i H x H' → g x σ H' fun σ2 H2 => tb { D with nx := N, ct := N, bk := D.nx } σ2 H2) := by
  refine ⟨fun i m σ H => m = xs.length - i ∧ i ≤ xs.length ∧ Pv i σ H, ⟨xs.length, by simp, Nat.zero_le _, h0⟩, ?_⟩
  rintro i m σ H ⟨rfl, hi, p⟩
  have q := hl i σ H hi p
  by_cases hlt : i < xs.length
  · refine .inr ⟨⟨xs, xs[i], q, by simp [hlt]⟩, Pv (i + 1), fun σ' H' p' => ⟨xs.length - (i + 1), by omega, rfl, hlt, p'⟩, fun x H' y => ?_⟩
    obtain ⟨e, y⟩ := y
    subst e
    exact hs i x σ _ (y xs q) p
  · have e : i = xs.length := by omega
    subst e
    exact .inl ⟨⟨xs, q, Nat.le_refl _⟩, hd σ H p⟩
theorem for_range {lo : Int} {n : Nat} {g : TG} {tb : TS} {D : Ends} {σ : St} {H : Hp} (Pv : Nat → St → Hp → Prop) (h0 : Pv 0 σ H)
    (hs : ∀ i σ H, i < n → Pv i σ H → g (.int (lo + i)) σ H fun σ2 H2 => tb { D with nx := Pv (i + 1), ct := Pv (i + 1), bk := D.nx } σ2 H2) (hd : ∀ σ H, Pv n σ H → D.nx σ H) :
    ∃ W : Nat → Nat → St → Hp → Prop, (∃ m, W 0 m σ H) ∧ ∀ i m σ H, W i m σ H →
      ((Itr lo n).stop i H ∧ D.nx σ H) ∨ ((Itr lo n).go i H ∧ ∃ N : St → Hp → Prop, (∀ σ' H', N σ' H' → ∃ m', m' < m ∧ W (i + 1) m' σ' H') ∧ ∀ x H', (Itr lo n).yld i H x H' → g x σ H' fun σ2 H2 => tb { D with nx := N, ct := N, bk := D.nx } σ2 H2) := by
  refine ⟨fun i m σ H => m = n - i ∧ i ≤ n ∧ Pv i σ H, ⟨n, by simp, Nat.zero_le _, h0⟩, ?_⟩
  rintro i m σ H ⟨rfl, hi, p⟩
  by_cases hlt : i < n
  · refine .inr ⟨hlt, Pv (i + 1), fun σ' H' p' => ⟨n - (i + 1), by omega, rfl, hlt, p'⟩, fun x H' y => ?_⟩
    obtain ⟨e, y⟩ := y
    subst e y
    exact hs i σ _ hlt p
  · have e : i = n := by omega
    subst e
    exact .inl ⟨Nat.le_refl _, hd σ H p⟩
end L2

namespace L2
open PySem PySem.Spec PyProof.Rows

abbrev R2 := V → V → Hp → VK → Prop
/-- a two-place operation on values: f is binaryOp op, inplaceOp op or compareOp op -/
def OpR (X : Cx) (f : Value → Value → Sem Value) (r : R2) : Prop :=
  ∀ (pins : List (Addr × Obj)) (s : Shared) (σ : St) (H : Hp) (x y : V) (v u : Value) (Q : VK), Inv X pins σ H s → RelV x v → RelV y u → r x y H Q →
    wpAny (model X.prog X.w) X.A (f v u) (EP X pins σ Q) X.xe s
/-- a one-place operation -/
def UnR (X : Cx) (f : Value → Sem Value) (r : V → Hp → VK → Prop) : Prop :=
  ∀ (pins : List (Addr × Obj)) (s : Shared) (σ : St) (H : Hp) (x : V) (v : Value) (Q : VK), Inv X pins σ H s → RelV x v → r x H Q →
    wpAny (model X.prog X.w) X.A (f v) (EP X pins σ Q) X.xe s
/-- a call of a value that is known (a builtin, a type) with values -/
def CallR (X : Cx) (f : Value) (r : List V → Hp → VK → Prop) : Prop :=
  ∀ (pins : List (Addr × Obj)) (s : Shared) (σ : St) (H : Hp) (xs : List V) (us : List Value) (Q : VK), Inv X pins σ H s → Vals xs us → r xs H Q →
    wpAny (model X.prog X.w) X.A (call f us) (EP X pins σ Q) X.xe s
/-- a value's truth -/
def TruR (X : Cx) (r : V → Hp → (Bool → Hp → Prop) → Prop) : Prop :=
  ∀ (pins : List (Addr × Obj)) (s : Shared) (σ : St) (H : Hp) (x : V) (v : Value) (Q : Bool → Hp → Prop), Inv X pins σ H s → RelV x v → r x H Q →
    wpAny (model X.prog X.w) X.A (truthy v) (TP X pins σ Q) X.xe s

def tOp (r : R2) (ta tb : TE) : TE := fun σ H Q => ta σ H fun x H1 => tb σ H1 fun y H2 => r x y H2 Q
def tUn (r : V → Hp → VK → Prop) (ta : TE) : TE := fun σ H Q => ta σ H fun x H1 => r x H1 Q
/-- ints in, under C, and a value out -/
def rI (C : Int → Int → Prop) (g : Int → Int → V) : R2 := fun x y H Q => ∃ i j, x = .int i ∧ y = .int j ∧ C i j ∧ Q (g i j) H
def rI0 (g : Int → Int → V) : R2 := fun x y H Q => ∃ i j, x = .int i ∧ y = .int j ∧ Q (g i j) H
def rU (g : Int → V) : V → Hp → VK → Prop := fun x H Q => ∃ i, x = .int i ∧ Q (g i) H

section
variable {X : Cx} {a b c : Expr} {ta tb tc : TE} {pos : Pos}

theorem binT (ha : PE X a ta) (hb : PE X b tb) {pins : List (Addr × Obj)} {s : Shared} {σ : St} {H : Hp} {R : V → V → Hp → Prop} (I : Inv X pins σ H s)
    (h : ta σ H fun x H1 => tb σ H1 fun y H2 => R x y H2) {Q : Value → Shared → Prop} {f : Value → Value → Sem Value}
    (hf : ∀ v u s2 x y H2, Inv X pins σ H2 s2 → RelV x v → RelV y u → R x y H2 → wpAny (model X.prog X.w) X.A (f v u) Q X.xe s2) :
    wpAny (model X.prog X.w) X.A (eval a X.env) (fun v s₁ => wpAny (model X.prog X.w) X.A (eval b X.env) (fun u s₂ => wpAny (model X.prog X.w) X.A (f v u) Q X.xe s₂) X.xe s₁) X.xe s := by
  refine thn (ha pins s σ H _ I h) fun v s1 ⟨x, H1, I1, r1, q1⟩ => ?_
  refine thn (hb pins s1 σ H1 _ I1 q1) fun u s2 ⟨y, H2, I2, r2, q2⟩ => ?_
  exact hf v u s2 x y H2 I2 r1 r2 q2

theorem pe_op {op : Operator} {r : R2} (ho : OpR X (binaryOp op) r) (ha : PE X a ta) (hb : PE X b tb) : PE X (.BinOp a op b pos) (tOp r ta tb) := by
  intro pins s σ H Q I h
  exact wpAny_BinOp (binT ha hb I h fun v u s2 x y H2 I2 rx ry q => ho pins s2 σ H2 x y v u Q I2 rx ry q)
theorem pe_un {op : UnaryOp} {r : V → Hp → VK → Prop} (ho : UnR X (unaryOp op) r) (ha : PE X a ta) : PE X (.UnaryOp op a pos) (tUn r ta) := by
  intro pins s σ H Q I h
  exact UnaryOp_ (thn (ha pins s σ H _ I h) fun v s1 ⟨x, H1, I1, r1, q1⟩ => ho pins s1 σ H1 x v Q I1 r1 q1)
theorem opI {f : Value → Value → Sem Value} {C : Int → Int → Prop} {g : Int → Int → Int}
    (rule : ∀ (i j : Int) (t u : Tok) (s : Shared) (Q : Value → Shared → Prop) (E : Value → Shared → Prop), C i j → Q (.int (g i j) s.toks) { s with toks := s.toks + 1 } → wpAny (model X.prog X.w) X.A (f (.int i t) (.int j u)) Q E s) :
    OpR X f (rI C fun i j => .int (g i j)) := by
  intro pins s σ H x y v u Q I rx ry h
  obtain ⟨i, j, rfl, rfl, hc, q⟩ := h
  obtain ⟨t, rfl⟩ := rx
  obtain ⟨t', rfl⟩ := ry
  exact rule i j t t' s _ _ hc ⟨.int (g i j), H, I.tok _, ⟨_, rfl⟩, q⟩
theorem opI0 {f : Value → Value → Sem Value} {g : Int → Int → Int}
    (rule : ∀ (i j : Int) (t u : Tok) (s : Shared) (Q : Value → Shared → Prop) (E : Value → Shared → Prop), Q (.int (g i j) s.toks) { s with toks := s.toks + 1 } → wpAny (model X.prog X.w) X.A (f (.int i t) (.int j u)) Q E s) :
    OpR X f (rI0 fun i j => .int (g i j)) := by
  intro pins s σ H x y v u Q I rx ry h
  obtain ⟨i, j, rfl, rfl, q⟩ := h
  obtain ⟨t, rfl⟩ := rx
  obtain ⟨t', rfl⟩ := ry
  exact rule i j t t' s _ _ ⟨.int (g i j), H, I.tok _, ⟨_, rfl⟩, q⟩
theorem opB0 {f : Value → Value → Sem Value} {g : Int → Int → Bool}
    (rule : ∀ (i j : Int) (t u : Tok) (s : Shared) (Q : Value → Shared → Prop) (E : Value → Shared → Prop), Q (.bool (g i j)) s → wpAny (model X.prog X.w) X.A (f (.int i t) (.int j u)) Q E s) :
    OpR X f (rI0 fun i j => .bl (g i j)) := by
  intro pins s σ H x y v u Q I rx ry h
  obtain ⟨i, j, rfl, rfl, q⟩ := h
  obtain ⟨t, rfl⟩ := rx
  obtain ⟨t', rfl⟩ := ry
  exact rule i j t t' s _ _ ⟨.bl (g i j), H, I, rfl, q⟩

def CDiv (i j : Int) : Prop := 0 < j ∧ j < 1073741824
def CMul (i j : Int) : Prop := (-(2 ^ 64) < i ∧ i < 2 ^ 64) ∨ (-(2 ^ 64) < j ∧ j < 2 ^ 64)
theorem CMul.ok {i j : Int} (h : CMul i j) : IntMulOk i j := by
  rcases h with ⟨h1, h2⟩ | ⟨h1, h2⟩
  · exact .of_left (intBits_le_64 h1 h2)
  · exact .of_right (intBits_le_64 h1 h2)
theorem op_add : OpR X (binaryOp .Add) (rI0 fun i j => .int (i + j)) := opI0 fun _ _ _ _ _ _ _ q => add_int q
theorem op_sub : OpR X (binaryOp .Sub) (rI0 fun i j => .int (i - j)) := opI0 fun _ _ _ _ _ _ _ q => sub_int q
theorem op_mul : OpR X (binaryOp .Mult) (rI CMul fun i j => .int (i * j)) := opI fun _ _ _ _ _ _ _ hc q => mul_int q hc.ok
/-- // by a positive divisor -/
theorem op_fdiv : OpR X (binaryOp .FloorDiv) (rI CDiv fun i j => .int (i / j)) := opI fun i j _ _ _ _ _ hc q => by
  have h1 : (0 : Int) < j := hc.1
  have h2 : j < 1073741824 := hc.2
  exact floordiv_int (by omega) (by rw [Int.fdiv_eq_ediv_of_nonneg i (by omega)]; exact q) (.inl (PyProof.noPylong_small (by omega)))
/-- % by a positive divisor of any size -/
theorem op_mod : OpR X (binaryOp .Mod) (rI (fun _ j => 0 < j) fun i j => .int (i % j)) := opI fun i j _ _ _ _ _ hc q => by
  have h1 : (0 : Int) < j := hc
  exact mod_int' (by omega) (by rw [Int.fmod_eq_emod_of_nonneg i (by omega)]; exact q)
theorem unI {f : Value → Sem Value} {g : Int → Int}
    (rule : ∀ (i : Int) (t : Tok) (s : Shared) (Q : Value → Shared → Prop) (E : Value → Shared → Prop), Q (.int (g i) s.toks) { s with toks := s.toks + 1 } → wpAny (model X.prog X.w) X.A (f (.int i t)) Q E s) :
    UnR X f (rU fun i => .int (g i)) := by
  intro pins s σ H x v Q I rx h
  obtain ⟨i, rfl, q⟩ := h
  obtain ⟨t, rfl⟩ := rx
  exact rule i t s _ _ ⟨.int (g i), H, I.tok _, ⟨_, rfl⟩, q⟩
theorem un_neg : UnR X (unaryOp .USub) (rU fun i => .int (-i)) := unI fun _ _ _ _ _ q => neg_int q
end

/-- the scalars that == tells apart as data does -/
def scal : V → V → Bool
  | .non, .non => true | .non, .int _ => true | .int _, .non => true | .non, .bl _ => true | .bl _, .non => true | .non, .str _ => true | .str _, .non => true
  | .int _, .int _ => true | .bl _, .bl _ => true | .str _, .str _ => true | .byt _, .byt _ => true
  | .int _, .str _ => true | .str _, .int _ => true | .bl _, .str _ => true | .str _, .bl _ => true
  | _, _ => false
def rEq : R2 := fun x y H Q => scal x y = true ∧ Q (.bl (decide (x = y))) H
def rNe : R2 := fun x y H Q => scal x y = true ∧ Q (.bl (!decide (x = y))) H

theorem dec_int {i j : Int} : decide (V.int i = V.int j) = (i == j) := by
  rw [Bool.eq_iff_iff]
  simp
theorem dec_bl {i j : Bool} : decide (V.bl i = V.bl j) = (i == j) := by
  rw [Bool.eq_iff_iff]
  simp
theorem dec_str {i j : Str} : decide (V.str i = V.str j) = (i == j) := by
  rw [Bool.eq_iff_iff]
  simp
theorem dec_byt {i j : Array UInt8} : decide (V.byt i = V.byt j) = (i.toList == j.toList) := by
  rw [Bool.eq_iff_iff]
  cases i
  cases j
  simp

section
variable {X : Cx} {a b c : Expr} {ta tb tc : TE} {pos : Pos}
theorem fin_bl {pins : List (Addr × Obj)} {σ : St} {H : Hp} {s : Shared} {Q : VK} {k k' : Bool} (I : Inv X pins σ H s) (q : Q (.bl k) H) (e : k = k') : EP X pins σ Q (.bool k') s := by
  subst e
  exact ⟨.bl k, H, I, rfl, q⟩
theorem op_eq : OpR X (compareOp .Eq) rEq := by
  intro pins s σ H x y v u Q I rx ry h
  obtain ⟨hs, q⟩ := h
  cases x with
  | non =>
    cases rx
    cases y with
    | non => cases ry; exact PySem.EqNone.eq_none_none (fin_bl I q (by simp))
    | bl j => cases ry; exact PySem.EqNone.eq_none_bool (fin_bl I q (by simp))
    | int j => obtain ⟨t', rfl⟩ := ry; exact PySem.EqNone.eq_none_int (fin_bl I q (by simp))
    | str j => obtain ⟨t', rfl⟩ := ry; exact PySem.EqNone.eq_none_str (fin_bl I q (by simp))
    | _ => exact absurd (show false = true from hs) Bool.false_ne_true
  | bl i =>
    cases rx
    cases y with
    | non => cases ry; exact PySem.EqNone.eq_bool_none (fin_bl I q (by simp))
    | bl j => cases ry; exact eq_bool (fin_bl I q dec_bl)
    | str j => obtain ⟨t', rfl⟩ := ry; exact PySem.EqMixed.eq_bool_str (fin_bl I q (by simp))
    | _ => exact absurd (show false = true from hs) Bool.false_ne_true
  | int i =>
    obtain ⟨t, rfl⟩ := rx
    cases y with
    | non => cases ry; exact PySem.EqNone.eq_int_none (fin_bl I q (by simp))
    | int j => obtain ⟨t', rfl⟩ := ry; exact eq_int (fin_bl I q dec_int)
    | str j => obtain ⟨t', rfl⟩ := ry; exact PySem.EqMixed.eq_int_str (fin_bl I q (by simp))
    | _ => exact absurd (show false = true from hs) Bool.false_ne_true
  | str i =>
    obtain ⟨t, rfl⟩ := rx
    cases y with
    | non => cases ry; exact PySem.EqNone.eq_str_none (fin_bl I q (by simp))
    | bl j => cases ry; exact PySem.EqMixed.eq_str_bool (fin_bl I q (by simp))
    | int j => obtain ⟨t', rfl⟩ := ry; exact PySem.EqMixed.eq_str_int (fin_bl I q (by simp))
    | str j => obtain ⟨t', rfl⟩ := ry; exact eq_str (fin_bl I q dec_str)
    | _ => exact absurd (show false = true from hs) Bool.false_ne_true
  | byt i =>
    obtain ⟨t, rfl⟩ := rx
    cases y with
    | byt j => obtain ⟨t', rfl⟩ := ry; exact PySem.W.eq_bytes (fin_bl I q dec_byt)
    | _ => exact absurd (show false = true from hs) Bool.false_ne_true
  | _ => cases y <;> exact absurd (show false = true from hs) Bool.false_ne_true
theorem op_ne : OpR X (compareOp .NotEq) rNe := by
  intro pins s σ H x y v u Q I rx ry h
  obtain ⟨hs, q⟩ := h
  cases x with
  | non =>
    cases rx
    cases y with
    | non => cases ry; exact PySem.EqNone.ne_none_none (fin_bl I q (by simp))
    | bl j => cases ry; exact PySem.EqNone.ne_none_bool (fin_bl I q (by simp))
    | int j => obtain ⟨t', rfl⟩ := ry; exact PySem.EqNone.ne_none_int (fin_bl I q (by simp))
    | str j => obtain ⟨t', rfl⟩ := ry; exact PySem.EqNone.ne_none_str (fin_bl I q (by simp))
    | _ => exact absurd (show false = true from hs) Bool.false_ne_true
  | bl i =>
    cases rx
    cases y with
    | non => cases ry; exact PySem.EqNone.ne_bool_none (fin_bl I q (by simp))
    | bl j => cases ry; exact ne_bool (fin_bl I q (congrArg not dec_bl))
    | str j => obtain ⟨t', rfl⟩ := ry; exact PySem.EqMixed.ne_bool_str (fin_bl I q (by simp))
    | _ => exact absurd (show false = true from hs) Bool.false_ne_true
  | int i =>
    obtain ⟨t, rfl⟩ := rx
    cases y with
    | non => cases ry; exact PySem.EqNone.ne_int_none (fin_bl I q (by simp))
    | int j => obtain ⟨t', rfl⟩ := ry; exact ne_int (fin_bl I q (congrArg not dec_int))
    | str j => obtain ⟨t', rfl⟩ := ry; exact PySem.EqMixed.ne_int_str (fin_bl I q (by simp))
    | _ => exact absurd (show false = true from hs) Bool.false_ne_true
  | str i =>
    obtain ⟨t, rfl⟩ := rx
    cases y with
    | non => cases ry; exact PySem.EqNone.ne_str_none (fin_bl I q (by simp))
    | bl j => cases ry; exact PySem.EqMixed.ne_str_bool (fin_bl I q (by simp))
    | int j => obtain ⟨t', rfl⟩ := ry; exact PySem.EqMixed.ne_str_int (fin_bl I q (by simp))
    | str j => obtain ⟨t', rfl⟩ := ry; exact ne_str (fin_bl I q (congrArg not dec_str))
    | _ => exact absurd (show false = true from hs) Bool.false_ne_true
  | byt i =>
    obtain ⟨t, rfl⟩ := rx
    cases y with
    | byt j => obtain ⟨t', rfl⟩ := ry; exact PySem.W.ne_bytes (fin_bl I q (congrArg not dec_byt))
    | _ => exact absurd (show false = true from hs) Bool.false_ne_true
  | _ => cases y <;> exact absurd (show false = true from hs) Bool.false_ne_true

theorem op_lt : OpR X (compareOp .Lt) (rI0 fun i j => .bl (decide (i < j))) := opB0 fun _ _ _ _ _ _ _ q => lt_int q
theorem op_gt : OpR X (compareOp .Gt) (rI0 fun i j => .bl (decide (j < i))) := opB0 fun _ _ _ _ _ _ _ q => gt_int q
theorem op_ge : OpR X (compareOp .GtE) (rI0 fun i j => .bl (decide (j ≤ i))) := opB0 fun _ _ _ _ _ _ _ q => ge_int q
/-- is None, is not None: the right side a value none -/
theorem op_isN : OpR X (compareOp .Is) (fun x y H Q => y = .non ∧ Q (.bl (decide (x = .non))) H) := by
  intro pins s σ H x y v u Q I rx ry h
  obtain ⟨rfl, q⟩ := h
  cases ry
  refine is_none_gen (fin_bl I q ?_)
  cases x <;> first
    | (cases rx; rfl)
    | (obtain ⟨t, rfl⟩ := rx; rfl)
/-- two rules for one operation: by cases -/
theorem OpR.or {f : Value → Value → Sem Value} {r r' : R2} (h : OpR X f r) (h' : OpR X f r') : OpR X f (fun x y H Q => r x y H Q ∨ r' x y H Q) := by
  intro pins s σ H x y v u Q I rx ry q
  rcases q with q | q
  · exact h pins s σ H x y v u Q I rx ry q
  · exact h' pins s σ H x y v u Q I rx ry q

theorem nomark (b : Expr) {op : CmpOp} (h : op ≠ .In := by decide) (h2 : op ≠ .NotIn := by decide) : behindInMarks op b = false := by
  have e1 : (op == CmpOp.In) = false := by cases op <;> first | rfl | exact absurd rfl h
  have e2 : (op == CmpOp.NotIn) = false := by cases op <;> first | rfl | exact absurd rfl h2
  cases b <;> simp [behindInMarks, e1, e2]
/-- a comparison as a value; hm: nomark b, or (for in, not in) by with_unfolding_all rfl -/
theorem pe_cmpR {op : CmpOp} {r : R2} (ho : OpR X (compareOp op) r) (ha : PE X a ta) (hb : PE X b tb) (hm : behindInMarks op b = false) : PE X (.Compare a [op] [b] pos) (tOp r ta tb) := by
  intro pins s σ H Q I h
  exact wpAny_Compare1 (binT ha hb I h fun v u s2 x y H2 I2 rx ry q => ho pins s2 σ H2 x y v u Q I2 rx ry q) hm
/-- a reading of a value as a test -/
def tTest (t : TE) : TT := fun σ H Q => t σ H fun x H' => ∃ k, x = .bl k ∧ Q k H'
theorem pt_cmpR {op : CmpOp} {r : R2} (ho : OpR X (compareOp op) r) (ha : PE X a ta) (hb : PE X b tb) (hm : behindInMarks op b = false) : PT X (.Compare a [op] [b] pos) (tTest (tOp r ta tb)) := by
  intro pins s σ H Q I h
  refine wpAny_isTrue_Compare1 (thn (ha pins s σ H _ I h) fun v s1 ⟨x, H1, I1, r1, q1⟩ => thn (hb pins s1 σ H1 _ I1 q1) fun u s2 ⟨y, H2, I2, r2, q2⟩ =>
    thn (ho pins s2 σ H2 x y v u _ I2 r1 r2 q2) fun c s3 ⟨z, H3, I3, r3, k, e, q3⟩ => ?_) hm
  subst e
  cases r3
  exact wpAny_truthy_bool ⟨H3, I3, q3⟩
/-- a value's truth by the abstract heap -/
def TruV (K : PySem.W.Frag) (x : V) (H : Hp) (k : Bool) : Prop :=
  match x with
  | .non => k = false
  | .bl b => k = b
  | .int i => k = (i != 0)
  | .str y => y.length ≤ sizeLine ∧ k = ((y.length : Int) != 0)
  | .byt y => y.size ≤ sizeLine ∧ k = ((y.size : Int) != 0)
  | .ref p => (∃ xs, SqL K H p xs ∧ k = !xs.isEmpty) ∨ (∃ xs, SqT K H p xs ∧ k = !xs.isEmpty) ∨ ∃ kvs, H p = some (.dK kvs) ∧ k = !kvs.isEmpty
  | _ => False
theorem isEmpty_kv {κ : Type} {kvs : List (κ × V)} {vs : List (κ × Value)} (r : KV kvs vs) : (!vs.isEmpty) = !kvs.isEmpty := by
  cases r <;> rfl
theorem isEmpty_of {xs : List V} {its : List Value} (r : Vals xs its) : (!its.toArray.isEmpty) = !xs.isEmpty := by
  cases r <;> simp
theorem line63 : (sizeLine : Nat) < 2 ^ 63 := by rw [sizeLine_eq]; decide
theorem tru_ok : TruR X (fun x H Q => ∃ k, TruV X.K x H k ∧ Q k H) := by
  intro pins s σ H x v Q I rx h
  obtain ⟨k, e, q⟩ := h
  have hl := line63
  have hs : sizeLine = 16777216 := sizeLine_eq
  cases x with
  | non =>
    cases rx
    have e' : k = false := e
    subst e'
    exact truthy_none ⟨H, I, q⟩
  | bl b =>
    cases rx
    have e' : k = b := e
    subst e'
    exact wpAny_truthy_bool ⟨H, I, q⟩
  | int i =>
    obtain ⟨t, rfl⟩ := rx
    have e' : k = (i != 0) := e
    subst e'
    exact PySem.P.truthy_int ⟨H, I, q⟩
  | str y =>
    obtain ⟨t, rfl⟩ := rx
    obtain ⟨hy, e'⟩ : y.length ≤ sizeLine ∧ k = ((y.length : Int) != 0) := e
    subst e'
    exact PySem.P.truthy_str (by omega) ⟨H, I.tok _, q⟩
  | byt y =>
    obtain ⟨t, rfl⟩ := rx
    obtain ⟨hy, e'⟩ : y.size ≤ sizeLine ∧ k = ((y.size : Int) != 0) := e
    subst e'
    exact PySem.W.truthy_bytes (by omega) ⟨H, I.tok _, q⟩
  | ref p =>
    cases rx
    have e' : (∃ xs, SqL X.K H p xs ∧ k = !xs.isEmpty) ∨ (∃ xs, SqT X.K H p xs ∧ k = !xs.isEmpty) ∨ ∃ kvs, H p = some (.dK kvs) ∧ k = !kvs.isEmpty := e
    rcases e' with ⟨xs, hx, e'⟩ | ⟨xs, hx, e'⟩ | ⟨kvs, hx, e'⟩
    · subst e'
      obtain ⟨its, r, pl, hz⟩ := I.list hx
      have hlen := r.length
      exact wpAny_truthy_list pl.isList (by simp only [List.size_toArray]; omega) ⟨H, I.tok _, by rw [isEmpty_of r]; exact q⟩
    · subst e'
      obtain ⟨its, r, pl, hz⟩ := I.tuple hx
      have hlen := r.length
      exact truthy_tuple pl (by simp only [List.size_toArray]; omega) ⟨H, I.tok _, by rw [isEmpty_of r]; exact q⟩
    · subst e'
      obtain ⟨hz, hS, vs, r, m⟩ : kvs.length ≤ sizeLine ∧ (p == sysModules) = false ∧ ∃ vs, KV kvs vs ∧ s.heap.DictOf (mixKind X.prog X.w) p vs := I.hok p _ hx
      have hlen : kvs.length = vs.length := Paired.length r
      exact wpAny_truthy_dict hS m (by omega) ⟨H, I.tok _, by rw [isEmpty_kv r]; exact q⟩
  | _ => exact (show False from e).elim
/-- any expression whose test is its value's truth (a name, a call, a subscript, a field ..: he by fun _ => rfl) -/
theorem pt_truth (ha : PE X a ta) (he : ∀ whole, isTrue a X.env whole = (do let v ← whole; standAt a.pos; holding [v] (truthy v))) :
    PT X a (fun σ H Q => ta σ H fun x H' => ∃ k, TruV X.K x H' k ∧ Q k H') := by
  intro pins s σ H Q I h
  exact isTrue_plain (thn (ha pins s σ H _ I h) fun v s1 ⟨x, H1, I1, r1, q1⟩ => tru_ok pins s1 σ H1 x v Q I1 r1 q1) (he _)

theorem vals1 {x : V} {us : List Value} (r : Vals [x] us) : ∃ u, us = [u] ∧ RelV x u := by
  cases r with
  | cons r1 r2 => cases r2; exact ⟨_, rfl, r1⟩
theorem vals2 {x y : V} {us : List Value} (r : Vals [x, y] us) : ∃ u w', us = [u, w'] ∧ RelV x u ∧ RelV y w' := by
  cases r with
  | cons r1 r2 =>
    cases r2 with
    | cons r3 r4 => cases r4; exact ⟨_, _, rfl, r1, r3⟩
theorem call_max2 (hc : X.calm = true) : CallR X (.builtin "max") (fun xs H Q => ∃ i j, xs = [.int i, .int j] ∧ Q (.int (if j > i then j else i)) H) := by
  intro pins s σ H xs us Q I r h
  obtain ⟨i, j, rfl, q⟩ := h
  obtain ⟨u, w', rfl, ⟨t, rfl⟩, ⟨t', rfl⟩⟩ := vals2 r
  refine max_two_ints (I.ok.hd hc) fun h' tk k => ⟨_, H, I.kept k, ?_, q⟩
  by_cases hj : j > i
  · rw [if_pos hj, if_pos hj]; exact ⟨_, rfl⟩
  · rw [if_neg hj, if_neg hj]; exact ⟨_, rfl⟩
theorem call_min2 (hc : X.calm = true) : CallR X (.builtin "min") (fun xs H Q => ∃ i j, xs = [.int i, .int j] ∧ Q (.int (if j < i then j else i)) H) := by
  intro pins s σ H xs us Q I r h
  obtain ⟨i, j, rfl, q⟩ := h
  obtain ⟨u, w', rfl, ⟨t, rfl⟩, ⟨t', rfl⟩⟩ := vals2 r
  refine min_two_ints (I.ok.hd hc) fun h' tk k => ⟨_, H, I.kept k, ?_, q⟩
  by_cases hj : j < i
  · rw [if_pos hj, if_pos hj]; exact ⟨_, rfl⟩
  · rw [if_neg hj, if_neg hj]; exact ⟨_, rfl⟩
end
end L2

namespace L2
open PySem PySem.Spec PyProof.Rows

structure ObjM (h : Heap) (x dx C : Addr) (mA : Str → Option Value) : Prop where
  obj : h.get? x = some (PySem.W.instObj C dx)
  ns : h.Ns1 dx mA
  ne : dx ≠ x

theorem lookIn_ns {h : Heap} {dx : Addr} {mA : Str → Option Value} (n : h.Ns1 dx mA) : ∃ od, h.get? dx = some od ∧ ∀ name, PySem.W.lookIn name od = some (mA name) := by
  obtain ⟨o, es, ep, ho, hd, hk, _, hm⟩ := n
  refine ⟨o, ho, fun name => ?_⟩
  have e := hm name
  unfold nsFind findBy at e
  rw [← Array.find?_toList] at e
  unfold PySem.W.lookIn
  rw [hd]
  dsimp only
  split
  · rename_i y q
    rw [q] at e
    exact congrArg some e
  · rename_i q
    rw [q] at e
    have a : es.toList.any (·.refKey) = false := by
      rw [List.any_eq_false]
      intro y hy
      obtain ⟨z, t, hkey⟩ := hk y (Array.mem_toList_iff.mp hy)
      simp [DictEntry.refKey, hkey]
    have a' : ¬ es.toList.any (·.refKey) = true := by rw [a]; exact Bool.false_ne_true
    rw [if_neg a']
    exact congrArg some e

theorem ObjM.look {h : Heap} {x dx C : Addr} {mA : Str → Option Value} (I : ObjM h x dx C mA) : ∃ od, PySem.W.InstAt h x (PySem.W.instObj C dx) C (some od) ∧ ∀ name, PySem.W.lookIn name od = some (mA name) :=
  let ⟨od, ho, hl⟩ := lookIn_ns I.ns
  ⟨od, ⟨I.obj, rfl, rfl, ho⟩, hl⟩

section
variable {prog : Program} {w : World} {A : Around} {E : Value → Shared → Prop} {s : Shared} {K : PySem.W.Frag} {x dx C f : Addr} {mA : Str → Option Value} {name : Str} {v : Value}

end

section
variable {P : Program} {w : World} {H H' : Hp} {h h' : Heap} {a C dx : Addr} {fs fs' : List (Str × V)}
theorem ins_get (hok : HOk P w H h) (e : H a = some (.ins C dx fs)) : ∃ mA, ObjM h a dx C mA ∧ (∀ f, RelO (fs.lookup f) (mA f)) ∧ PySem.Within mA (fs.map (·.1)) ∧ fs.length ≤ 1000 ∧ H dx = some (.own a) := by
  obtain ⟨d, z, ne, ob, mA, n, r, q⟩ := (show ObjOk P w H h a (.ins C dx fs) from hok a _ e)
  exact ⟨mA, ⟨ob, n, ne⟩, r, q, z, d⟩
end

structure Cls (K : PySem.W.Frag) (C : Addr) : Prop where
  pg : PySem.W.plainGet K C Str.empty = true
  hd : PySem.W.hasDictIn K C = true
  po : PySem.W.plainOver K C = true
  sa : PySem.W.findIn K (.ref C) "__setattr__" = some (some (.builtin "object.__setattr__"))
theorem Cls.get {K : PySem.W.Frag} {C : Addr} (c : Cls K C) (f : Str) : PySem.W.plainGet K C f = true := c.pg
/-- a constant of the class -/
structure Con (K : PySem.W.Frag) (C : Addr) (f : Str) (v : V) (u : Value) : Prop where
  at_ : PySem.W.findIn K (.ref C) f = some (some u)
  rel : RelV v u
  get : PySem.W.specialIn K u "__get__" = some none
  cp : PySem.W.copiedNames.contains f = false
/-- a method: a plain def of the class or of one above it -/
structure Meth (K : PySem.W.Frag) (C : Addr) (m : Str) (f : Addr) : Prop where
  at_ : PySem.W.findIn K (.ref C) m = some (some (.ref f))
  fn : PySem.W.isFn K (.ref f) = true
  kp : PySem.W.keepIn K (.ref f) = true

section
variable {X : Cx} {pins : List (Addr × Obj)} {σ : St} {H : Hp} {s : Shared} {a C dx : Addr} {fs : List (Str × V)} {f : Str} {v : V} {A : Around} {E : Value → Shared → Prop}

/-- a new instance, tracked, without attributes -/
theorem Inv.made (I : Inv X pins σ H s) : Inv X pins σ (upd (upd H s.heap.objs.size (.own (s.heap.objs.size + 1))) (s.heap.objs.size + 1) (.ins C s.heap.objs.size []))
    { s with heap := (s.heap.push PySem.W.emptyDict).push (PySem.W.instObj C s.heap.objs.size) } := by
  have e1 : (s.heap.push PySem.W.emptyDict).get? s.heap.objs.size = some PySem.W.emptyDict := Heap.get?_push_size s.heap rfl
  have e2 : ((s.heap.push PySem.W.emptyDict).push (PySem.W.instObj C s.heap.objs.size)).get? (s.heap.objs.size + 1) = some (PySem.W.instObj C s.heap.objs.size) := by
    have := Heap.get?_push_size (s.heap.push PySem.W.emptyDict) (o := PySem.W.instObj C s.heap.objs.size) rfl
    rwa [Heap.size_push] at this
  have e3 : (s.heap.push PySem.W.emptyDict).Ns s.heap.objs.size (fun _ => none) := ⟨PySem.W.emptyDict, #[], _, e1, rfl, (fun e he => absurd he (by simp)), fun _ => rfl⟩
  have I1 := I.laid (a := s.heap.objs.size) (o := .own (s.heap.objs.size + 1)) (h' := s.heap.push PySem.W.emptyDict) (t' := s.toks) (fun b u q => Heap.get?_push_of_some _ q) (Nat.le_refl _) ⟨_, e1⟩
  refine I1.laid (a := s.heap.objs.size + 1) (o := .ins C s.heap.objs.size []) (t' := s.toks) (fun b u q => Heap.get?_push_of_some _ q) (Nat.le_of_eq (Heap.size_push _ _)) ?_
  have ne : s.heap.objs.size ≠ s.heap.objs.size + 1 := Nat.ne_of_lt (Nat.lt_succ_self _)
  refine ⟨by rw [upd_ne ne, upd_same], Nat.zero_le _, ne, e2, fun _ => none, (Heap.Ns1.of_empty e3).at fun o q => Heap.get?_push_of_some _ q, fun _ => True.intro, fun y hy => absurd rfl hy⟩

end

section
variable {X : Cx} {o e value : Expr} {f : Str} {pos pos' tpos : Pos} {ta tv : TE}
end

section
variable {X : Cx} {pins : List (Addr × Obj)} {σ : St} {H : Hp} {s : Shared} {A : Around} {E : Value → Shared → Prop} {Q : Value → Shared → Prop} {c : Value} {b : Bool}
/-- the type of a value, as the fragment's deciders take it; for an instance its class -/
inductive TyOf (K : PySem.W.Frag) (H : Hp) : V → Value → Prop where
  | non : TyOf K H .non (.type "NoneType")
  | bl (x : Bool) : TyOf K H (.bl x) (.type "bool")
  | int (i : Int) : TyOf K H (.int i) (.type "int")
  | str (x : Str) : TyOf K H (.str x) (.type "str")
  | flt (x : UInt64) : TyOf K H (.flt x) (.type "float")
  | lst {a : Addr} {xs : List V} (e : H a = some (.lst xs)) : TyOf K H (.ref a) (.type "list")
  | frz {a : Addr} {o : Obj} {xs : List V} (e : H a = some (.frz o (.lst xs))) : TyOf K H (.ref a) (.type "list")
  | tup {a : Addr} {xs : List V} (e : H a = some (.tup xs)) : TyOf K H (.ref a) (.type "tuple")
  | dK {a : Addr} {kvs : List (Key × V)} (e : H a = some (.dK kvs)) : TyOf K H (.ref a) (.type "dict")
  | dT {a : Addr} {kvs : List (List Key × V)} (e : H a = some (.dT kvs)) : TyOf K H (.ref a) (.type "dict")
  | ins {a C dx : Addr} {fs : List (Str × V)} (e : H a = some (.ins C dx fs)) (cl : Cls K C) (ha : PySem.W.findIn K (.ref C) "__class__" = some (some (.builtin "object.__class__")))
      (hn : PySem.W.specialIn K (.builtin "object.__class__") "__get__" = some (some (.builtin "getset_descriptor.__get__"))) (htk : PySem.W.takesIn K (.builtin "object.__class__") = some true)
      (hm : PySem.W.mroIn K C (.type "object") = some true) : TyOf K H (.ref a) (.ref C)
/-- isinstance(x, c) for one class c, a built-in or an own one: kitOne's answer -/
theorem isinst_ok {x : V} {u t : Value} (I : Inv X pins σ H s) (rx : RelV x u) (ty : TyOf X.K H x t) (e : PySem.W.kitOne X.K t c = some b) (h : ∀ tk, Q (.bool b) { s with toks := tk }) :
    wpAny (model X.prog X.w) A (call (.builtin "isinstance") [u, c]) Q E s := by
  cases ty with
  | non => cases (show u = Value.none from rx); exact PySem.W.kia_one PySem.W.kitx_none I.kIn True.intro e (fun z => nomatch z) h
  | bl y => cases (show u = Value.bool y from rx); exact PySem.W.kia_one PySem.W.kitx_bool I.kIn True.intro e (fun z => nomatch z) h
  | int i => obtain ⟨t, q⟩ := (show ∃ t, u = Value.int i t from rx); cases q; exact PySem.W.kia_one PySem.W.kitx_int I.kIn True.intro e (fun z => nomatch z) h
  | str y => obtain ⟨t, q⟩ := (show ∃ t, u = Value.str y t from rx); cases q; exact PySem.W.kia_one PySem.W.kitx_str I.kIn True.intro e (fun z => nomatch z) h
  | flt y => obtain ⟨t, q⟩ := (show ∃ t, u = Value.float y t from rx); cases q; exact PySem.W.kia_one PySem.W.kitx_float I.kIn True.intro e (fun z => nomatch z) h
  | @lst a xs ea =>
    cases (show u = Value.ref a from rx)
    obtain ⟨_, _, n, _, h1⟩ := (show ObjOk X.prog X.w H s.heap a (.lst xs) from I.hok a _ ea)
    exact PySem.W.kia_one PySem.W.kitx_list I.kIn ⟨_, h1, rfl⟩ e (fun z => nomatch z) h
  | @frz a ob xs ea =>
    cases (show u = Value.ref a from rx)
    obtain ⟨_, _, _, n, _, h1⟩ := (show ObjOk X.prog X.w H s.heap a (.frz ob (.lst xs)) from I.hok a _ ea)
    exact PySem.W.kia_one PySem.W.kitx_list I.kIn ⟨_, h1, rfl⟩ e (fun z => nomatch z) h
  | @tup a xs ea =>
    cases (show u = Value.ref a from rx)
    obtain ⟨_, _, _, p⟩ := (show ObjOk X.prog X.w H s.heap a (.tup xs) from I.hok a _ ea)
    obtain ⟨o, h1, h2, _⟩ := p
    exact PySem.W.kia_one PySem.W.kitx_tuple I.kIn ⟨o, h1, h2⟩ e (fun z => nomatch z) h
  | @dK a kvs ea =>
    cases (show u = Value.ref a from rx)
    obtain ⟨_, _, vs, _, p⟩ := (show ObjOk X.prog X.w H s.heap a (.dK kvs) from I.hok a _ ea)
    obtain ⟨o, es, ep, h1, h2, _⟩ := p
    exact PySem.W.kia_one PySem.W.kitx_dict I.kIn ⟨o, h1, h2.1⟩ e (fun z => nomatch z) h
  | @dT a kvs ea =>
    cases (show u = Value.ref a from rx)
    obtain ⟨_, _, xs, _, o, es, ep, h1, h2, _⟩ := (show ObjOk X.prog X.w H s.heap a (.dT kvs) from I.hok a _ ea)
    exact PySem.W.kia_one PySem.W.kitx_dict I.kIn ⟨o, h1, h2.1⟩ e (fun z => nomatch z) h
  | @ins a C dx fs ea cl ha hn htk hm =>
    cases (show u = Value.ref a from rx)
    obtain ⟨mA, O, _⟩ := ins_get I.hok ea
    obtain ⟨od, J, _⟩ := O.look
    exact PySem.W.kia_one (PySem.W.kitx_own (cl.get _) cl.hd ha hn htk hm) I.kIn J e (fun z => nomatch z) h
end
end L2

namespace L2
open PySem PySem.Spec PyProof.Rows

structure Room (k : Nat) (A : Around) : Prop where
  hd : A.handled = none
  dp : A.depth + 3 * k + 5 < recursionLimit
  un : A.units + 16 * k + 200 < cLine
theorem Room.mono {j k : Nat} {A : Around} (r : Room k A) (h : j ≤ k) : Room j A := ⟨r.hd, by have := r.dp; omega, by have := r.un; omega⟩
theorem Room.deeper {k : Nat} {A : Around} (r : Room (k + 1) A) (env : Env) : Room k (A.deeper env) :=
  ⟨r.hd, by have := r.dp; show A.depth + 1 + 3 * k + 5 < _; omega, by have := r.un; show A.units + 3 + 16 * k + 200 < _; omega⟩
theorem Room.in1 {k : Nat} {A : Around} (r : Room (k + 1) A) : Room k A.in1 :=
  ⟨r.hd, by have := r.dp; show A.depth + 3 * k + 5 < _; omega, by have := r.un; show A.units + 1 + 16 * k + 200 < _; omega⟩
theorem make_depth {A : Around} {C : Addr} {us : List Value} {kw : List (Str × Value)} : (A.under (.builtin "type.__call__" ⟨.ref C :: us, kw⟩)).depth = A.depth + 1 := by
  first | rfl | simp [Around.under, Code.weight, Code.isCreation, Code.isGuard, Code.isCaller, Code.frames, Code.isFrame, guardIds]
theorem make_units {A : Around} {C : Addr} {us : List Value} {kw : List (Str × Value)} : (A.under (.builtin "type.__call__" ⟨.ref C :: us, kw⟩)).units = A.units + 1 := by
  first | rfl | simp [Around.under, Code.cUnits, Code.frames, Code.isFrame]
theorem Room.make {k : Nat} {A : Around} (r : Room (k + 1) A) (C : Addr) (us : List Value) (kw : List (Str × Value)) : Room k (A.under (.builtin "type.__call__" ⟨.ref C :: us, kw⟩)) :=
  ⟨r.hd, by have := r.dp; rw [make_depth]; omega, by have := r.un; rw [make_units]; omega⟩
theorem Room.depth {k : Nat} {A : Around} (r : Room k A) : A.depth < recursionLimit := by have := r.dp; omega
theorem Room.units {k : Nat} {A : Around} (r : Room k A) : A.units + 64 < cLine := by have := r.un; omega
theorem Room.units0 {k : Nat} {A : Around} (r : Room k A) : A.units < cLine := by have := r.un; omega

def tNil : TA := fun _ H Q => Q [] H
def tCons (ta : TE) (tr : TA) : TA := fun σ H Q => ta σ H fun x H1 => tr σ H1 fun xs H2 => Q (x :: xs) H2
section
variable {X : Cx} {e : Expr} {es : List Expr} {te : TE} {t : TA} {pos : Pos}
theorem pa_nil : PA X [] tNil := fun _ _ _ _ H Q I h => Calls.spliced_nil ⟨[], H, I, .nil, h⟩
theorem pa_cons (ha : PE X e te) (hr : PA X es t) (hs : starEach (e :: es) X.env = (false, eval e X.env) :: starEach es X.env := by rfl) : PA X (e :: es) (tCons te t) := by
  intro pos pins s σ H Q I h
  rw [hs]
  show wpAny _ _ (spliced ((false, eval e X.env) :: backTo pos (starEach es X.env))) _ _ s
  refine Calls.spliced_cons (thn (ha pins s σ H _ I h) fun u s1 ⟨x, H1, I1, r1, q1⟩ => ?_)
  exact thn (hr pos pins s1 σ H1 _ I1 q1) fun us s2 ⟨xs, H2, I2, r2, q2⟩ => ⟨x :: xs, H2, I2, .cons r1 r2, q2⟩

/-- a tuple, a list of written items -/
def tTup (t : TA) : TE := fun σ H Q => t σ H fun xs H1 => xs.length ≤ sizeLine ∧ ∀ p, H1 p = none → Q (.ref p) (upd H1 p (.tup xs))
def tLst (t : TA) : TE := fun σ H Q => t σ H fun xs H1 => xs.length ≤ sizeLine ∧ ∀ p, H1 p = none → Q (.ref p) (upd H1 p (.lst xs))
theorem pe_tup {x1} (h : PA X es t) : PE X (.Tuple es x1 pos) (tTup t) := by
  intro pins s σ H Q I hq
  refine wpAny_Tuple_spliced (thn (h pos pins s σ H _ I hq) fun us s1 ⟨xs, H1, I1, r, z, q⟩ => ⟨by rw [← r.length]; exact z, ?_⟩)
  have hf : H1 s1.heap.objs.size = none := I1.hok.fresh (Nat.le_refl _)
  refine ⟨.ref s1.heap.objs.size, upd H1 s1.heap.objs.size (.tup xs), I1.laid (t' := s1.toks) (fun b u e => Heap.get?_push_of_some _ e) (Nat.le_refl _) ?_, rfl, q _ hf⟩
  exact ⟨z, us, r, ⟨_, Heap.get?_push_size _ rfl, rfl, _, rfl⟩⟩
theorem pe_lst (h : PA X es t) : PE X (.List es pos) (tLst t) := by
  intro pins s σ H Q I hq
  refine wpAny_List_spliced (thn (h pos pins s σ H _ I hq) fun us s1 ⟨xs, H1, I1, r, z, q⟩ => ⟨by rw [← r.length]; exact z, ?_⟩)
  have hf : H1 s1.heap.objs.size = none := I1.hok.fresh (Nat.le_refl _)
  refine ⟨.ref s1.heap.objs.size, upd H1 s1.heap.objs.size (.lst xs), I1.laid (t' := s1.toks) (fun b u e => Heap.get?_push_of_some _ e) (Nat.le_refl _) ?_, rfl, q _ hf⟩
  exact ⟨z, us, 0, r, Heap.get?_push_size _ rfl⟩
end

/-- a def's promise: the bound arguments in the parameters' order, the heap, the wanted end, the wanted exception -/
abbrev Sp := List V → Hp → VK → XK → Prop
/-- how an exception lies behind a call (file 08 gives it): the callers' frames, abstract heap and state ahead of the call, the wish, the exception, the state -/
abbrev CXT := List Env → Hp → Shared → XK → Value → Shared → Prop

/-- the state at a call -/
structure Env0 (P : Program) (w : World) (K : PySem.W.Frag) (mg : Str → Option Value) (base : Heap) (A : Around) (outer : List Env) (s : Shared) (H : Hp) : Prop where
  frames : A.frames = some outer
  mod : Mod K mg base
  bs : ∀ b o, base.get? b = some o → s.heap.get? b = some o ∧ H b = none
  bsz : base.objs.size ≤ s.heap.objs.size
  funs : s.heap.FunFrames base outer
  frf : ∀ b ∈ frs outer, H b = none
  hok : HOk P w H s.heap
  bare : AllBare s.gens
/-- a call's end -/
def CE (outer : List Env) (P : Program) (w : World) (H : Hp) (s : Shared) (Q : VK) (u : Value) (s' : Shared) : Prop :=
  ∃ v H', s'.os = s.os ∧ AllBare s'.gens ∧ Un (frs outer) [] H H' s.heap s'.heap ∧ HOk P w H' s'.heap ∧ RelV v u ∧ Q v H'
def CR (CX : CXT) (outer : List Env) (P : Program) (w : World) (H : Hp) (s : Shared) (Q : VK) (E : XK) (r : Result) (s' : Shared) : Prop :=
  match r with
  | .ok (.ret u) => CE outer P w H s Q u s'
  | .ok _ => False
  | .error e => CX outer H s E e s'
structure FnOk (P : Program) (w : World) (K : PySem.W.Frag) (mg : Str → Option Value) (base : Heap) (CX : CXT) (k : Nat) (f : Addr) (fd : FuncData) (ps : List Str) (sp : Sp) : Prop where
  len : ∀ vs H Q E, sp vs H Q E → vs.length = ps.length
  run : ∀ (A : Around) (outer : List Env) (s : Shared) (H : Hp) (args : Args) (us : List Value) (vs : List V) (Q : VK) (E : XK), Room k A → Env0 P w K mg base A outer s H → BindsTo s fd args (ps.zip us) → Vals vs us → sp vs H Q E →
    codeAny (model P w) A (.call (.ref f) args) (CR CX outer P w H s Q E) s
theorem FnOk.mono {P : Program} {w : World} {K : PySem.W.Frag} {mg : Str → Option Value} {base : Heap} {CX : CXT} {j k : Nat} {f : Addr} {fd : FuncData} {ps : List Str} {sp : Sp} (F : FnOk P w K mg base CX j f fd ps sp) (h : j ≤ k) :
    FnOk P w K mg base CX k f fd ps sp := ⟨F.len, fun A outer s H args us vs Q E hr => F.run A outer s H args us vs Q E (hr.mono h)⟩
theorem Env0.make {P : Program} {w : World} {K : PySem.W.Frag} {mg : Str → Option Value} {base : Heap} {A : Around} {outer : List Env} {s : Shared} {H : Hp} (e : Env0 P w K mg base A outer s H) (C : Addr) (us : List Value) (kw : List (Str × Value)) :
    Env0 P w K mg base (A.under (.builtin "type.__call__" ⟨.ref C :: us, kw⟩)) outer s H := ⟨by first | exact e.frames | (simpa [Around.under, Code.envs, Code.isFrame, pushEnvs] using e.frames), e.mod, e.bs, e.bsz, e.funs, e.frf, e.hok, e.bare⟩
theorem Env0.in1 {P : Program} {w : World} {K : PySem.W.Frag} {mg : Str → Option Value} {base : Heap} {A : Around} {outer : List Env} {s : Shared} {H : Hp} (e : Env0 P w K mg base A outer s H) :
    Env0 P w K mg base A.in1 outer s H := ⟨e.frames, e.mod, e.bs, e.bsz, e.funs, e.frf, e.hok, e.bare⟩

section
variable {X : Cx} {pins : List (Addr × Obj)} {σ : St} {H : Hp} {s s' : Shared}
/-- from a body: what a callee wants -/
theorem Inv.env0 (I : Inv X pins σ H s) : Env0 X.prog X.w X.K X.mg X.base X.A X.stack s H :=
  ⟨I.ok.frames, I.ok.mod, I.bs, Nat.le_trans I.ok.bsz I.sz, I.stack, I.stkFree, I.hok, I.bare⟩
/-- behind a call -/
theorem Inv.after {Q : VK} {u : Value} (I : Inv X pins σ H s) (h : CE X.stack X.prog X.w H s Q u s') : EP X pins σ Q u s' := by
  obtain ⟨v, H', os, bare, un, hok, r, q⟩ := h
  obtain ⟨hh, g, d, t, os'⟩ := s'
  obtain rfl : os' = s.os := os
  exact ⟨v, H', I.call (h' := hh) (g' := g) (d' := d) (t' := t) (ch := []) un hok bare (fun b z => absurd z (by simp)), r, q⟩
end

/-- f(..): the written arguments, then the defaults dvs; E: what is wanted of an exception -/
def tCall (sp : Sp) (dvs : List V) (E : XK) (t : TA) : TE := fun σ H Q => t σ H fun vs H1 => sp (vs ++ dvs) H1 Q E
/-- how the parameters are bound: us the positional arguments, kw the keywords' values by name, ds the defaults that fill up -/
def Binds (K : PySem.W.Frag) (fd : FuncData) (ps : List Str) (ds : List Value) : Prop :=
  ∀ (s : Shared) (us : List Value), K.In s.heap → (us ++ ds).length = ps.length → BindsTo s fd ⟨us, []⟩ (ps.zip (us ++ ds))
/-- every parameter is given -/
theorem Binds.all {K : PySem.W.Frag} {fd : FuncData} {ps : List Str} (h : ∀ us : List Value, us.length = ps.length → bindArgs fd ⟨us, []⟩ = pure (ps.zip us)) : Binds K fd ps [] := fun s us _ hl => by
  rw [List.append_nil] at hl ⊢
  exact .of_eq (h us hl)

/-- an exception of a callee reaches what this body wants of exceptions -/
def Passes (CX : CXT) (X : Cx) (E : XK) : Prop := ∀ (pins : List (Addr × Obj)) (σ : St) (H : Hp) (s : Shared) (e : Value) (s' : Shared), Inv X pins σ H s → CX X.stack H s E e s' → X.xe e s'

section
variable {X : Cx} {CX : CXT} {k : Nat} {f C : Addr} {fd : FuncData} {ps : List Str} {sp : Sp} {dvs : List V} {ds : List Value} {E : XK} {x m : Str} {p pos apos : Pos} {e o : Expr} {es : List Expr} {ta : TE} {t : TA}

/-- the callee runs -/
theorem run_fn {pins : List (Addr × Obj)} {σ : St} {H : Hp} {s : Shared} {Q : VK} {us : List Value} {vs : List V} (F : FnOk X.prog X.w X.K X.mg X.base CX k f fd ps sp) (hr : Room k X.A) (hb : Binds X.K fd ps ds) (hd : Vals dvs ds) (hx : Passes CX X E)
    (I : Inv X pins σ H s) (r : Vals vs us) (h : sp (vs ++ dvs) H Q E) : wpAny (model X.prog X.w) X.A (call (.ref f) us) (EP X pins σ Q) X.xe s := by
  have r2 : Vals (vs ++ dvs) (us ++ ds) := r.append hd
  have hl : (us ++ ds).length = ps.length := by rw [← r2.length]; exact F.len _ _ _ _ h
  refine wpAny_call (codeAny_mono (F.run X.A X.stack s H ⟨us, []⟩ (us ++ ds) (vs ++ dvs) Q E hr I.env0 (hb s us I.kIn hl) r2 h) fun r s' hq => ?_)
  cases r with
  | error e => exact hx pins σ H s e s' I hq
  | ok fl =>
    cases fl with
    | ret u => exact I.after hq
    | next => exact False.elim hq
    | brk => exact False.elim hq
    | cont => exact False.elim hq

theorem pe_call (F : FnOk X.prog X.w X.K X.mg X.base CX k f fd ps sp) (hr : Room k X.A) (hg : Gl X x) (hm : X.mg x = some (.ref f)) (hk : PySem.W.keepIn X.K (.ref f) = true) (hb : Binds X.K fd ps ds) (hd : Vals dvs ds) (hx : Passes CX X E)
    (ha : PA X (e :: es) t) (hdb : (x == ("__debug__" : Str)) = false := by decide) (he : starEach (e :: es) X.env = (false, eval e X.env) :: starEach es X.env := by rfl) (hpl : (backTo pos (starEach es X.env)).any (·.1) = false := by rfl) :
    PE X (.Call (.Name x p) (e :: es) [] pos) (tCall sp dvs E t) := by
  intro pins s σ H Q I h
  refine wpAny_Call_Name_kw (ld_glob I hg hm ?_ hdb)
  refine PySem.W.callWith_K (h₀ := X.base) I.ok.mod.kin hk (thn (ha pos pins s σ H _ I h) fun us s1 ⟨vs, H1, I1, r, q⟩ => ⟨I1.kIn, ?_⟩) he hpl
  exact run_fn F hr hb hd hx I1 r q
/-- what a class must have to be made -/
structure Mk (K : PySem.W.Frag) (C f : Addr) : Prop where
  makes : PySem.W.makesIn K C = true
  init : PySem.W.findIn K (.ref C) "__init__" = some (some (.ref f))
  fn : PySem.W.isFn K (.ref f) = true
  kp : PySem.W.keepIn K (.ref C) = true

end

/-- the values of the keywords, from the left -/
def PK (X : Cx) (kws : List Keyword) (t : TA) : Prop :=
  ∀ (pos : Pos) (pins : List (Addr × Obj)) (s : Shared) (σ : St) (H : Hp) (Q : List V → Hp → Prop), Inv X pins σ H s → t σ H Q → wpAny (model X.prog X.w) X.A (evalAll ((backToKw pos (keywordEach kws X.env)).map (·.2))) (AP X pins σ Q) X.xe s
section
variable {X : Cx} {CX : CXT} {k : Nat} {f C : Addr} {fd : FuncData} {ps ks : List Str} {sp : Sp} {E : XK} {x m : Str} {p pos apos kpos : Pos} {e o : Expr} {es : List Expr} {kws : List Keyword} {te ta : TE} {t tk : TA} {nm : Option Str}
theorem pk_nil : PK X [] tNil := fun _ _ _ _ H Q I h => wpAny_evalAll_nil ⟨[], H, I, .nil, h⟩
theorem pk_cons (ha : PE X e te) (hr : PK X kws t) : PK X (⟨nm, e, kpos⟩ :: kws) (tCons te t) := by
  intro pos pins s σ H Q I h
  show wpAny _ _ (evalAll ((do let v ← eval e X.env; standAt pos; pure v) :: (backToKw pos (keywordEach kws X.env)).map (·.2))) _ _ s
  refine wpAny_evalAll_cons (wpAny_bind (thn (ha pins s σ H _ I h) fun u s1 ⟨x, H1, I1, r1, q1⟩ => wpAny_bind (wpAny_standAt (wpAny_pure ?_))))
  exact thn (hr pos pins s1 σ H1 _ I1 q1) fun us s2 ⟨xs, H2, I2, r2, q2⟩ => ⟨x :: xs, H2, I2, .cons r1 r2, q2⟩

/-- how a call with keywords binds: g puts the positional values us and the keywords' values ws (names ks) in the parameters' order, defaults among them -/
structure KBinds (K : PySem.W.Frag) (fd : FuncData) (ps ks : List Str) (g : List Value → List Value → List Value) (gV : List V → List V → List V) : Prop where
  to : ∀ (s : Shared) (us ws : List Value), K.In s.heap → (g us ws).length = ps.length → BindsTo s fd ⟨us, ks.zip ws⟩ (ps.zip (g us ws))
  rel : ∀ {vs : List V} {us : List Value} {zs : List V} {ws : List Value}, Vals vs us → Vals zs ws → Vals (gV vs zs) (g us ws)
variable {g : List Value → List Value → List Value} {gV : List V → List V → List V}
end

/-- names: the parameters first -/
structure FnScope (N P : List Str) (sc : Scope) : Prop where
  kind : sc.kind = .function
  co : sc.isCoroutine = false
  gen : sc.isGenerator = false
  nd : N.Nodup
  pre : N.take P.length = P
  par : ∀ x ∈ P, sc.names.lookup x = some .local ∨ sc.names.lookup x = some .cell
  nofree : ∀ y ∈ sc.names, y.2 ≠ .free

theorem bindL_out {kindOf : Str → Option NameKind} {x : Str} : ∀ {binds : List (Str × Value)} {m : Str → Option Value}, (∀ v, (x, v) ∉ binds) → bindL kindOf binds m x = m x
  | [], _, _ => rfl
  | (n, v) :: r, m, h => by
    unfold bindL
    rw [bindL_out fun w hw => h w (List.mem_cons_of_mem _ hw)]
    split
    · have : x ≠ n := by rintro rfl; exact h v List.mem_cons_self
      simp [this]
    · rfl
theorem bindC_out {kindOf : Str → Option NameKind} {x : Str} : ∀ {binds : List (Str × Value)} {m : Str → Option Value}, (∀ v, (x, v) ∉ binds) → bindC kindOf binds m x = m x
  | [], _, _ => rfl
  | (n, v) :: r, m, h => by
    unfold bindC
    rw [bindC_out fun w hw => h w (List.mem_cons_of_mem _ hw)]
    split
    · rfl
    · have : x ≠ n := by rintro rfl; exact h v List.mem_cons_self
      simp [this]
theorem bindL_get {kindOf : Str → Option NameKind} {x : Str} {v : Value} : ∀ {P : List Str} {vs : List Value} {i : Nat} {m : Str → Option Value}, P.Nodup → P[i]? = some x → vs[i]? = some v → kindOf x = some .local →
    bindL kindOf (P.zip vs) m x = some v
  | [], _, _, _, _, h, _, _ => by simp at h
  | _ :: _, [], _, _, _, _, h, _ => by simp at h
  | p :: P, w :: vs, 0, m, nd, h1, h2, hk => by
    simp at h1 h2; subst h1; subst h2
    show bindL kindOf ((p, w) :: P.zip vs) m p = _
    unfold bindL
    rw [bindL_out fun v hv => (List.nodup_cons.mp nd).1 (List.of_mem_zip hv).1, if_pos hk]
    simp
  | p :: P, w :: vs, i + 1, m, nd, h1, h2, hk => by
    show bindL kindOf ((p, w) :: P.zip vs) m x = _
    unfold bindL
    exact bindL_get (i := i) (List.nodup_cons.mp nd).2 (by simpa using h1) (by simpa using h2) hk
theorem bindC_get {kindOf : Str → Option NameKind} {x : Str} {v : Value} : ∀ {P : List Str} {vs : List Value} {i : Nat} {m : Str → Option Value}, P.Nodup → P[i]? = some x → vs[i]? = some v → kindOf x ≠ some .local →
    bindC kindOf (P.zip vs) m x = some v
  | [], _, _, _, _, h, _, _ => by simp at h
  | _ :: _, [], _, _, _, _, h, _ => by simp at h
  | p :: P, w :: vs, 0, m, nd, h1, h2, hk => by
    simp at h1 h2; subst h1; subst h2
    show bindC kindOf ((p, w) :: P.zip vs) m p = _
    unfold bindC
    rw [bindC_out fun v hv => (List.nodup_cons.mp nd).1 (List.of_mem_zip hv).1, if_neg hk]
    simp
  | p :: P, w :: vs, i + 1, m, nd, h1, h2, hk => by
    show bindC kindOf ((p, w) :: P.zip vs) m x = _
    unfold bindC
    exact bindC_get (i := i) (List.nodup_cons.mp nd).2 (by simpa using h1) (by simpa using h2) hk

/-- the names' values at the entry -/
def start (N : List Str) (vs : List V) : St := vs.map some ++ List.replicate (N.length - vs.length) none

/-- the context of a def's body, at its entry; an exception leaves the frame, then lies as CX says -/
def cxOf (CX : CXT) (P : Program) (w : World) (K : PySem.W.Frag) (mg : Str → Option Value) (base : Heap) (N : List Str) (qual : Str) (scope : Scope) (f : Addr) (cd : Value) (A : Around) (outer : List Env) (s : Shared) (H : Hp) (E : XK) : Cx where
  prog := P
  w := w
  K := K
  mg := mg
  base := base
  A := A.deeper (envOfC qual scope s.heap.objs.size f cd)
  N := N
  s₀ := s
  H₀ := H
  env := envOfC qual scope s.heap.objs.size f cd
  outer := outer
  stack := envOfC qual scope s.heap.objs.size f cd :: outer
  ex := []
  calm := true
  fn := fun _ => true
  pn := []
  xe := fun e s' => wpAny (model P w) (A.deeper (envOfC qual scope s.heap.objs.size f cd)) (leaving (envOfC qual scope s.heap.objs.size f cd) e) (fun _ s'' => CX outer H s E e s'') (fun e' s'' => CX outer H s E e' s'') s'

theorem cell_has {sc : Scope} {n : Nat} {x : Str} (h : sc.names.lookup x = some .cell) : ∃ c, (cellsFrom n sc.names []).lookup x = some c := by
  have q := PySem.W.cellsFrom_some sc.names n [] (.inl h)
  exact Option.isSome_iff_exists.mp q

theorem inv_start {CX : CXT} {P : Program} {w : World} {K : PySem.W.Frag} {mg : Str → Option Value} {base : Heap} {N ps : List Str} {qual : Str} {scope : Scope} {f : Addr} {cd : Value} {A : Around} {outer : List Env} {s s1 : Shared} {H : Hp} {E : XK} {us : List Value} {vs : List V}
    (S : FnScope N ps scope) (hd : A.handled = none) (e0 : Env0 P w K mg base A outer s H) (hl : vs.length = ps.length) (r : Vals vs us)
    (x : InCallC s s.heap.objs.size (bindL (envOfC qual scope s.heap.objs.size f cd).kindOf (ps.zip us) fun _ => none) (cellsFrom (s.heap.objs.size + 1) scope.names []) (bindC (envOfC qual scope s.heap.objs.size f cd).kindOf (ps.zip us) fun _ => none) s1) :
    Inv (cxOf CX P w K mg base N qual scope f cd A outer s H E) [] (start N vs) H s1 := by
  have hpl : ps.length ≤ N.length := by have := congrArg List.length S.pre; rw [List.length_take] at this; omega
  obtain ⟨h1, tk, rfl, hk⟩ := x.done
  have noA : ∀ b : Addr, b ∉ (cxOf CX P w K mg base N qual scope f cd A outer s H E).ex := fun b z => absurd (show b ∈ ([] : List Addr) from z) (by simp)
  refine ⟨⟨e0.mod, S.kind, rfl, rfl, Nat.le_refl _, fun y z c h1 h2 => ?_, fun y hy => ?_, fun y c _ h => ?_, fun _ => hd, Around.frames_deeper e0.frames, .inr ⟨rfl, rfl⟩, fun b z => absurd z (noA b), e0.bs, e0.bsz, fun b _ _ => noA b, fun b z => absurd z (noA b), e0.funs, e0.frf⟩,
    rfl, e0.bare, Un.kept hk, ⟨_, x.toInCall.ns, fun i y v h1 h2 h3 => ?_⟩, fun y c h => ⟨_, x.cell y c h⟩, e0.hok.fresh (Nat.le_refl _), fun y c h => ?_, fun p hp => absurd (show p ∈ ([] : List (Addr × Obj)) from hp) (by simp), e0.hok.kept hk, ?_⟩
  · exact name_of_addr x.apart (PySem.mem_of_lookup h1) (PySem.mem_of_lookup h2)
  · have hy : scope.names.lookup y = some .cell ∨ scope.names.lookup y = some .free := hy
    rcases hy with hy | hy
    · exact cell_has hy
    · exact absurd rfl (S.nofree _ (PySem.mem_of_lookup hy))
  · exact Nat.le_of_lt (x.above y c (PySem.mem_of_lookup h))
  · have hi : i < vs.length := by
      unfold start at h2
      by_cases hi : i < vs.length
      · exact hi
      · rw [List.getElem?_append_right (by simpa using hi)] at h2
        rw [List.getElem?_replicate] at h2
        split at h2 <;> cases h2
    have ha : vs[i]? = some v := by
      unfold start at h2
      rw [List.getElem?_append_left (by simpa using hi), List.getElem?_map] at h2
      cases e : vs[i]? with
      | none => rw [e] at h2; cases h2
      | some a => rw [e] at h2; cases h2; rfl
    obtain ⟨u, hu, rv⟩ := r.get ha
    have hp : ps[i]? = some y := by
      rw [← S.pre, List.getElem?_take_of_lt (by omega)]; exact h1
    have ndP : ps.Nodup := by rw [← S.pre]; exact S.nd.sublist (List.take_sublist _ _)
    refine ⟨u, rv, ?_⟩
    rcases S.par y (List.mem_of_getElem? hp) with k | k
    · exact .inl ⟨k, bindL_get ndP hp hu k⟩
    · obtain ⟨c, e⟩ := cell_has (n := s.heap.objs.size + 1) k
      refine .inr ⟨.inl k, c, e, ?_⟩
      have q := x.cell y c e
      rw [bindC_get ndP hp hu (by show scope.names.lookup y ≠ _; rw [k]; decide)] at q
      exact q
  · exact e0.hok.fresh (Nat.le_of_lt (x.above y c (PySem.mem_of_lookup h)))
  · unfold start
    show _ = N.length
    rw [List.length_append, List.length_map, List.length_replicate]
    omega

/-- THE RULE: a def (or a method) of the text, by its body. The body's reading t is chosen for each entry; it is run at the parameters' values -/
theorem fn_of {CX : CXT} {P : Program} {w : World} {K : PySem.W.Frag} {mg : Str → Option Value} {base : Heap} {k : Nat} {f : Addr} {name qual : Str} {params : Arguments} {body : List Stmt} {scope : Scope} {dV kV doc pm cdv ct oc : Value} {an od : Option Addr}
    {osl : Array (Option Value)} {N ps : List Str} {sp : Sp} (lk : K.lookup f = some ⟨oc, od, .func (PySem.W.fnOf name qual params body scope dV kV doc pm an cdv ct), osl⟩) (hcd : PySem.W.codeIn K cdv qual = true) (S : FnScope N ps scope)
    (len : ∀ vs H Q E, sp vs H Q E → vs.length = ps.length)
    (hbody : ∀ (A : Around) (outer : List Env) (s : Shared) (H : Hp) (vs : List V) (Q : VK) (E : XK), Room k (A.deeper (envOfC qual scope s.heap.objs.size f cdv)) → sp vs H Q E →
      ∃ t, PSs (cxOf CX P w K mg base N qual scope f cdv A outer s H E) body t ∧ t { nx := fun _ H' => Q .non H', rt := Q } (start N vs) H) :
    FnOk P w K mg base CX (k + 1) f (PySem.W.fnOf name qual params body scope dV kV doc pm an cdv ct) ps sp := by
  refine ⟨len, fun A outer s H args us vs Q E hr e0 hb r hsp => ?_⟩
  have hl := len _ _ _ _ hsp
  have KX : K.In s.heap := e0.mod.kin.keeps fun b o e => (e0.bs b o e).1
  have lim : s.heap.NoLimit := e0.mod.nolimit.keeps fun b o e => (e0.bs b o e).1
  have hkind : ∀ y ∈ ps.zip us, scope.names.lookup y.1 = some .local ∨ (scope.names.lookup y.1 = some .cell ∧ ((cellsFrom (s.heap.objs.size + 1) scope.names []).lookup y.1).isSome = true) := fun ⟨n, v⟩ hy => by
    rcases S.par n (List.of_mem_zip hy).1 with q | q
    · exact .inl q
    · exact .inr ⟨q, PySem.W.cellsFrom_some _ _ _ (.inl q)⟩
  refine codeAny_call_function hr.depth (KX _ _ lk) rfl S.co S.gen rfl (PySem.W.codeRec_of KX hcd) (hb _ _ _ _ ?_)
  refine wpAny_newFunctionEnv_cells S.kind hkind fun env he s1 x => ?_
  subst he
  refine ⟨lim.keeps x.toInCall.keep, codeAny_func ?_⟩
  obtain ⟨t, ht, hq⟩ := hbody A outer s H vs Q E (hr.deeper _) hsp
  have I : Inv (cxOf CX P w K mg base N qual scope f cdv A outer s H E) [] (start N vs) H s1 := inv_start S hr.hd e0 hl r x
  refine wpAny_mono (ht [] s1 (start N vs) H _ I hq) (fun fl s' hs => ?_) fun e s' hs => hs
  have fin : ∀ {σ' : St} {H' : Hp} {v : V} {u : Value}, Inv (cxOf CX P w K mg base N qual scope f cdv A outer s H E) [] σ' H' s' → RelV v u → Q v H' → CE outer P w H s Q u s' :=
    fun {σ' H' v u} J rv q => ⟨v, H', J.os, J.bare, J.base, J.hok, rv, q⟩
  cases fl with
  | ret u =>
    obtain ⟨v, σ', H', J, rv, q⟩ := hs
    exact fin J rv q
  | next =>
    obtain ⟨σ', H', J, q⟩ := hs
    exact fin (v := V.non) (u := Value.none) J rfl q
  | brk =>
    obtain ⟨_, _, _, q⟩ := hs
    exact False.elim q
  | cont =>
    obtain ⟨_, _, _, q⟩ := hs
    exact False.elim q
end L2

namespace L2
open PySem PySem.Spec PyProof.Rows
section
variable {X : Cx} {x : Str} {p pos : Pos} {e : Expr} {es : List Expr} {t : TA} {id T : String} {r : List V → Hp → VK → Prop}

def tCB (r : List V → Hp → VK → Prop) (t : TA) : TE := fun σ H Q => t σ H fun vs H1 => r vs H1 Q
/-- f(e, ..), f a built-in function -/
theorem pe_callB (hc : CallR X (.builtin id) r) (hg : Gl X x) (hm : X.mg x = none) (hv : bootBuiltins x = some (.builtin id)) (ha : PA X (e :: es) t) (hn : x ≠ "__name__" := by decide) (hdb : (x == ("__debug__" : Str)) = false := by decide)
    (he : starEach (e :: es) X.env = (false, eval e X.env) :: starEach es X.env := by rfl) (hpl : (backTo pos (starEach es X.env)).any (·.1) = false := by rfl) : PE X (.Call (.Name x p) (e :: es) [] pos) (tCB r t) := by
  intro pins s σ H Q I h
  refine wpAny_Call_Name_kw (ld_blt I hg hm hv ?_ hn hdb)
  exact PyProof.Rows.callWith_builtin1 (thn (ha pos pins s σ H _ I h) fun us s1 ⟨vs, H1, I1, r1, q1⟩ => hc pins s1 σ H1 vs us Q I1 r1 q1) he hpl
/-- T(e, ..), T a built-in type -/
theorem pe_callTy (hc : CallR X (.type T) r) (hg : Gl X x) (hm : X.mg x = none) (hv : bootBuiltins x = some (.type T)) (ha : PA X (e :: es) t) (hn : x ≠ "__name__" := by decide) (hdb : (x == ("__debug__" : Str)) = false := by decide)
    (he : starEach (e :: es) X.env = (false, eval e X.env) :: starEach es X.env := by rfl) (hpl : (backTo pos (starEach es X.env)).any (·.1) = false := by rfl) : PE X (.Call (.Name x p) (e :: es) [] pos) (tCB r t) := by
  intro pins s σ H Q I h
  refine wpAny_Call_Name_kw (ld_blt I hg hm hv ?_ hn hdb)
  exact PyProof.Rows.callWith_type1 (thn (ha pos pins s σ H _ I h) fun us s1 ⟨vs, H1, I1, r1, q1⟩ => hc pins s1 σ H1 vs us Q I1 r1 q1) he hpl
end
end L2

namespace HT
open PySem PyProof.Rows

section
open PySem.SeqAt
open PySem.AutoSeq1 (wpAny_loadPart')
open PySem.MeetsSeq PySem.MeetsSeq2 PySem.MeetsSeq3

end

section
variable {prog : Program} {w : World} {A : Around} {E : Value → Shared → Prop} {s : Shared}

/-- a slice's bound as a place among n (d where it is left out) -/
def sIx (n d : Nat) : Option Int → Nat
  | none => d
  | some v => if v < 0 then (v + (n : Int)).toNat else min v.toNat n
theorem sIx_none (n d : Nat) : sIx n d none = d := rfl
theorem sIx_nat (n d k : Nat) : sIx n d (some (k : Int)) = min k n := by
  show (if (k : Int) < 0 then ((k : Int) + (n : Int)).toNat else min (k : Int).toNat n) = min k n
  rw [if_neg (by omega), Int.toNat_natCast]
end
end HT

namespace L2
open PySem PySem.Spec PyProof.Rows

abbrev TO := St → Hp → (Option Int → Hp → Prop) → Prop
/-- a slice's part (left out, or an int) -/
def PO (X : Cx) (e : Option Expr) (t : TO) : Prop :=
  ∀ (pins : List (Addr × Obj)) (s : Shared) (σ : St) (H : Hp) (Q : Option Int → Hp → Prop), Inv X pins σ H s → t σ H Q →
    wpAny (model X.prog X.w) X.A (evalPart e X.env) (fun u s' => ∃ o H', Inv X pins σ H' s' ∧ IsPart u o ∧ Q o H') X.xe s
def tNoPart : TO := fun _ H Q => Q none H
def tPart (t : TE) : TO := fun σ H Q => t σ H fun x H1 => ∃ i, x = .int i ∧ Q (some i) H1

theorem intsAre_of {ns : List Int} : ∀ {us : List Value}, Vals (ns.map V.int) us → IntsAre us ns := by
  induction ns with
  | nil => intro us r; rw [List.map_nil] at r; cases r; exact .nil
  | cons n ns ih =>
    intro us r
    rw [List.map_cons] at r
    cases r with
    | cons r1 r2 =>
      obtain ⟨t, e⟩ := r1
      subst e
      exact .cons n t (ih r2)

section
variable {X : Cx} {e : Expr} {te : TE} {lo hi : Option Expr} {tl th : TO} {pos p2 : Pos}

theorem po_none : PO X none tNoPart := by
  intro pins s σ H Q I h
  rw [evalPart_none]
  exact wpAny_pure ⟨none, H, I, .none, h⟩
theorem po_some (h : PE X e te) : PO X (some e) (tPart te) := by
  intro pins s σ H Q I hw
  rw [evalPart_some]
  refine thn (h pins s σ H _ I hw) fun u s1 ⟨x, H1, I1, r1, q1⟩ => ?_
  obtain ⟨i, rfl, q⟩ := q1
  obtain ⟨t, rfl⟩ := r1
  exact ⟨some i, H1, I1, .int i t, q⟩

/-- what a slice of a value is, by values: the slice object stands at sl -/
def SlR (X : Cx) (r : V → Option Int → Option Int → Hp → VK → Prop) : Prop :=
  ∀ (pins : List (Addr × Obj)) (s : Shared) (σ : St) (H : Hp) (x : V) (v vl vu : Value) (lo hi : Option Int) (sl : Addr) (Q : VK), Inv X pins σ H s → RelV x v → s.heap.IsSliceOf sl vl vu .none → IsPart vl lo → IsPart vu hi → r x lo hi H Q →
    ∃ T id, typeLookup (.type T) "__getitem__" = pure (some (.builtin id)) ∧ s.TypeIs v T ∧ wpAny (model X.prog X.w) X.A (getItem v (.ref sl)) (EP X pins σ Q) X.xe s
theorem SlR.or {r r' : V → Option Int → Option Int → Hp → VK → Prop} (h : SlR X r) (h' : SlR X r') : SlR X (fun x lo hi H Q => r x lo hi H Q ∨ r' x lo hi H Q) := by
  intro pins s σ H x v vl vu lo hi sl Q I rx hs pl pu q
  rcases q with q | q
  · exact h pins s σ H x v vl vu lo hi sl Q I rx hs pl pu q
  · exact h' pins s σ H x v vl vu lo hi sl Q I rx hs pl pu q
def tSl (r : V → Option Int → Option Int → Hp → VK → Prop) (te : TE) (tl th : TO) : TE := fun σ H Q => te σ H fun x H1 => tl σ H1 fun l H2 => th σ H2 fun u H3 => r x l u H3 Q
/-- a[lo:hi], any a -/
theorem pe_slice {r : V → Option Int → Option Int → Hp → VK → Prop} (hr : SlR X r) (he : PE X e te) (hl : PO X lo tl) (hu : PO X hi th) : PE X (.Subscript e (.Slice lo hi none p2) pos) (tSl r te tl th) := by
  intro pins s σ H Q I h
  refine Subscript_ (thn (he pins s σ H _ I h) fun v s1 ⟨x, H1, I1, r1, q1⟩ => ?_)
  refine wpAny_Slice (thn (hl pins s1 σ H1 _ I1 q1) fun vl s2 ⟨l, H2, I2, pl, q2⟩ => thn (hu pins s2 σ H2 _ I2 q2) fun vu s3 ⟨u, H3, I3, pu, q3⟩ => ?_)
  rw [evalPart_none]
  refine wpAny_pure ?_
  have I4 : Inv X pins σ H3 { s3 with heap := s3.heap.push { cls := .type "slice", data := .fields #[vl, vu, .none] } } := I3.kept (t' := s3.toks) fun b ob q => Heap.get?_push_of_some _ q
  obtain ⟨T, id, hT, ht, hg⟩ := hr pins { s3 with heap := s3.heap.push { cls := .type "slice", data := .fields #[vl, vu, .none] } } σ H3 x v vl vu l u s3.heap.objs.size Q I4 r1 (Heap.IsSliceOf.new ..) pl pu q3
  show wpAny (model X.prog X.w) X.A (subscriptTail e (.Slice lo hi none p2) v (.ref s3.heap.objs.size)) (EP X pins σ Q) X.xe { s3 with heap := s3.heap.push { cls := .type "slice", data := .fields #[vl, vu, .none] } }
  exact tail_any (ops := [.ref s3.heap.objs.size, v]) ht hT hg (by with_unfolding_all rfl)

/-- the items of xs[lo:hi] -/
def cutV (xs : List V) (lo hi : Option Int) : List V := (xs.drop (HT.sIx xs.length 0 lo)).take (HT.sIx xs.length xs.length hi - HT.sIx xs.length 0 lo)
theorem cutV_length (xs : List V) (lo hi : Option Int) : (cutV xs lo hi).length ≤ xs.length := by
  unfold cutV
  rw [List.length_take, List.length_drop]
  omega
end
end L2

namespace L2
open PySem PySem.Spec PyProof.Rows

/-- the place that an index of any sign means -/
def ixN (n : Nat) (i : Int) : Option Nat := if 0 ≤ i then (if i < n then some i.toNat else none) else if -(n : Int) ≤ i then some (i + n).toNat else none
def atI {α : Type} (xs : List α) (i : Int) : Option α := (ixN xs.length i).bind fun j => xs[j]?
theorem ixN_seq {n : Nat} {i : Int} {j : Nat} (h : ixN n i = some j) : seqIndex? i n = some j ∧ j < n ∧ -(n : Int) ≤ i ∧ i < n := by
  unfold ixN at h
  by_cases h0 : 0 ≤ i
  · rw [if_pos h0] at h
    by_cases h1 : i < n
    · rw [if_pos h1] at h
      have e : i.toNat = j := Option.some.inj h
      exact ⟨by rw [seqIndex_of h0 h1, e], by omega, by omega, h1⟩
    · rw [if_neg h1] at h; cases h
  · rw [if_neg h0] at h
    by_cases h1 : -(n : Int) ≤ i
    · rw [if_pos h1] at h
      have e : (i + n).toNat = j := Option.some.inj h
      exact ⟨by rw [seqIndex_neg (by omega) h1, e], by omega, h1, by omega⟩
    · rw [if_neg h1] at h; cases h
theorem atI_get {α : Type} {xs : List α} {i : Int} {v : α} (h : atI xs i = some v) : ∃ j, seqIndex? i xs.length = some j ∧ xs[j]? = some v ∧ j < xs.length ∧ -(xs.length : Int) ≤ i ∧ i < xs.length := by
  unfold atI at h
  cases e : ixN xs.length i with
  | none => rw [e] at h; cases h
  | some j =>
    rw [e] at h
    obtain ⟨h1, h2, h3, h4⟩ := ixN_seq e
    exact ⟨j, h1, h, h2, h3, h4⟩
theorem atI_nat {α : Type} {xs : List α} {j : Nat} {v : α} (h : xs[j]? = some v) : atI xs (j : Int) = some v := by
  have hj : j < xs.length := (List.getElem?_eq_some_iff.mp h).1
  have e : ixN xs.length (j : Int) = some j := by
    unfold ixN
    rw [if_pos (by omega), if_pos (by omega)]; simp
  unfold atI; rw [e]; exact h
theorem atI_last {α : Type} (xs : List α) (v : α) : atI (xs ++ [v]) (-1) = some v := by
  have hl : (xs ++ [v]).length = xs.length + 1 := by simp
  have e : ixN (xs ++ [v]).length (-1) = some xs.length := by
    unfold ixN
    rw [hl, if_neg (by decide), if_pos (by omega)]
    congr 1
    omega
  unfold atI
  rw [e]
  show (xs ++ [v])[xs.length]? = some v
  simp

/-- what stands as an index of a plain subscript -/
def PlainIx (b : Expr) : Prop := ∀ o i, subscripted b false o i = operate [o, i] (getItem o i)
/-- a subscript by values -/
def IxR (X : Cx) (r : R2) : Prop :=
  ∀ (value slice : Expr) (pins : List (Addr × Obj)) (s : Shared) (σ : St) (H : Hp) (x y : V) (v u : Value) (Q : VK), Inv X pins σ H s → RelV x v → RelV y u → r x y H Q →
    subscripted slice false v u = operate [v, u] (getItem v u) → wpAny (model X.prog X.w) X.A (subscriptTail value slice v u) (EP X pins σ Q) X.xe s
/-- a call of a builtin's method by values: the receiver, the arguments -/
def MtR (X : Cx) (id : String) (r : V → List V → Hp → VK → Prop) : Prop :=
  ∀ (pins : List (Addr × Obj)) (s : Shared) (σ : St) (H : Hp) (x : V) (xs : List V) (v : Value) (us : List Value) (Q : VK), Inv X pins σ H s → RelV x v → Vals xs us → r x xs H Q →
    wpAny (model X.prog X.w) X.A (call (.builtin id) (v :: us)) (EP X pins σ Q) X.xe s
section
variable {X : Cx} {a b : Expr} {ta tb : TE} {pos : Pos}
theorem IxR.or {r r' : R2} (h : IxR X r) (h' : IxR X r') : IxR X (fun x y H Q => r x y H Q ∨ r' x y H Q) := by
  intro value slice pins s σ H x y v u Q I rx ry q hs
  rcases q with q | q
  · exact h value slice pins s σ H x y v u Q I rx ry q hs
  · exact h' value slice pins s σ H x y v u Q I rx ry q hs
theorem MtR.or {id : String} {r r' : V → List V → Hp → VK → Prop} (h : MtR X id r) (h' : MtR X id r') : MtR X id (fun x xs H Q => r x xs H Q ∨ r' x xs H Q) := by
  intro pins s σ H x xs v us Q I rx rs q
  rcases q with q | q
  · exact h pins s σ H x xs v us Q I rx rs q
  · exact h' pins s σ H x xs v us Q I rx rs q
/-- a[b] -/
theorem pe_ix {r : R2} (hr : IxR X r) (ha : PE X a ta) (hb : PE X b tb) (hs : PlainIx b) : PE X (.Subscript a b pos) (tOp r ta tb) := by
  intro pins s σ H Q I h
  exact Subscript_ (binT ha hb I h fun v u s2 x y H2 I2 rx ry q => hr a b pins s2 σ H2 x y v u Q I2 rx ry q (hs _ _))

def rIxL (K : PySem.W.Frag) : R2 := fun x y H Q => ∃ p xs i v, x = .ref p ∧ y = .int i ∧ SqL K H p xs ∧ atI xs i = some v ∧ Q v H
def rIxT (K : PySem.W.Frag) : R2 := fun x y H Q => ∃ p xs i v, x = .ref p ∧ y = .int i ∧ SqT K H p xs ∧ atI xs i = some v ∧ Q v H
theorem ix_list : IxR X (rIxL X.K) := by
  intro value slice pins s σ H x y v u Q I rx ry h hs
  obtain ⟨p, xs, i, z, rfl, rfl, hq, he, q⟩ := h
  cases rx
  obtain ⟨t, rfl⟩ := ry
  obtain ⟨its, r, pl, hz⟩ := I.list hq
  obtain ⟨j, h1, h2, h3, h4, h5⟩ := atI_get he
  obtain ⟨w, ew, rw'⟩ := r.get h2
  have hl := r.length
  have hn := line63
  have fin : EP X pins σ Q w s := ⟨z, H, I, rw', q⟩
  by_cases h0 : 0 ≤ i
  · have hj : i.toNat = j := by
      rw [seqIndex_of h0 h5] at h1
      exact Option.some.inj h1
    exact item_listR pl.isList h0 (by omega) (by rw [hj]; simpa using ew) fin hs
  · have hj : (i + (its.toArray.size : Int)).toNat = j := by
      rw [seqIndex_neg (by omega) h4] at h1
      rw [List.size_toArray, ← hl]
      exact Option.some.inj h1
    exact subscriptTail_builtinR (x := w) pl.isList.typeIs slot_list_getitem.lookup
      (wpAny_getItem_list_neg (Q := fun r s' => r = w ∧ EP X pins σ Q r s') pl.isList (by omega) (by rw [List.size_toArray] <;> omega) (by omega) (by rw [hj]; simpa using ew) ⟨rfl, fin⟩) hs
theorem ix_tup : IxR X (rIxT X.K) := by
  intro value slice pins s σ H x y v u Q I rx ry h hs
  obtain ⟨p, xs, i, z, rfl, rfl, hq, he, q⟩ := h
  cases rx
  obtain ⟨t, rfl⟩ := ry
  obtain ⟨its, r, pl, hz⟩ := I.tuple hq
  obtain ⟨j, h1, h2, h3, h4, h5⟩ := atI_get he
  obtain ⟨w, ew, rw'⟩ := r.get h2
  have hl := r.length
  have hn := line63
  have fin : EP X pins σ Q w s := ⟨z, H, I, rw', q⟩
  exact subscriptTail_builtinR (x := w) pl.typeIs slot_tuple_getitem.lookup
    (getItem_tuple (j := j) (Q := fun r s' => r = w ∧ EP X pins σ Q r s') pl (by omega) (by omega) (by rw [List.size_toArray, ← hl]; exact h1) (by simpa using ew) ⟨rfl, fin⟩) hs
/-- the list's object behind a store -/
theorem mapSeq_set (its : List Value) (n j : Nat) (u : Value) : Obj.mapSeq (·.setIfInBounds j u) { cls := .type "list", data := .seq its.toArray n } = { cls := .type "list", data := .seq (its.set j u).toArray n } := by
  simp [Obj.mapSeq]
theorem Inv.lst {pins : List (Addr × Obj)} {σ : St} {H : Hp} {s : Shared} {p : Addr} {xs : List V} (I : Inv X pins σ H s) (h : H p = some (.lst xs)) :
    ∃ (its : List Value) (n : Nat), Vals xs its ∧ s.heap.get? p = some { cls := .type "list", data := .seq its.toArray n } ∧ xs.length ≤ sizeLine := by
  obtain ⟨z, its, n, r, e⟩ := I.hok p _ h
  exact ⟨its, n, r, e, z⟩
/-- the list at p is written by an update of its object -/
theorem Inv.lstUpd {pins : List (Addr × Obj)} {σ : St} {H : Hp} {s : Shared} {p : Addr} {xs ys : List V} {its its' : List Value} {n n' : Nat} {f : Obj → Obj} (I : Inv X pins σ H s) (h : H p = some (.lst xs))
    (ho : s.heap.get? p = some { cls := .type "list", data := .seq its.toArray n }) (hf : f { cls := .type "list", data := .seq its.toArray n } = { cls := .type "list", data := .seq its'.toArray n' }) (r : Vals ys its') (hz : ys.length ≤ sizeLine) (t : Nat) :
    Inv X pins σ (upd H p (.lst ys)) { s with heap := s.heap.update p f, toks := t } := by
  have e : (s.heap.update p f).get? p = some { cls := .type "list", data := .seq its'.toArray n' } := by
    rw [Heap.get?_update_self f ho (by rw [hf] <;> rfl), hf]
  refine I.write (x := p) (e := p) (by rw [h]; trivial) (.inl rfl) (fun b u hb q => (Heap.get?_update_other _ _ (Ne.symm hb)).trans q) ⟨_, e⟩ ?_
  exact ⟨hz, its', n', r, e⟩
def rSetL : V → V → V → Hp → (Hp → Prop) → Prop := fun o i v H Q => ∃ p xs k j, o = .ref p ∧ i = .int k ∧ H p = some (.lst xs) ∧ ixN xs.length k = some j ∧ Q (upd H p (.lst (xs.set j v)))
theorem set_list : PSet X rSetL := by
  intro pins s σ H o i v ov iv u Q I ro ri rv h
  obtain ⟨p, xs, k, j, rfl, rfl, hp, hj, q⟩ := h
  cases ro
  obtain ⟨t, rfl⟩ := ri
  obtain ⟨its, n, r, ho, hz⟩ := I.lst hp
  obtain ⟨h1, h2, h3, h4⟩ := ixN_seq hj
  have hl := r.length
  have hn := line63
  have I' : Inv X pins σ (upd H p (.lst (xs.set j v))) { s with heap := s.heap.update p (Obj.mapSeq (·.setIfInBounds j u)) } :=
    I.lstUpd hp ho (mapSeq_set its n j u) (r.set rv j) (by rw [List.length_set]; exact hz) s.toks
  by_cases h0 : 0 ≤ k
  · have hk : k.toNat = j := by
      rw [seqIndex_of h0 h4] at h1
      exact Option.some.inj h1
    exact PySem.W.ki_setAt ho h0 (by omega) (by rw [List.size_toArray, ← hl]; exact h4) (by rw [hk]; exact ⟨_, I', q⟩)
  · have hk : (k + (its.toArray.size : Int)).toNat = j := by
      rw [seqIndex_neg (by omega) h3] at h1
      rw [List.size_toArray, ← hl]
      exact Option.some.inj h1
    exact PySem.W.ki_setBack ho (by omega) (by rw [List.size_toArray, ← hl]; exact h3) (by omega) (by rw [hk]; exact ⟨_, I', q⟩)

theorem slice_bounds (lo hi : Option Int) (n : Nat) : (sliceBounds lo hi none n).1 = ((HT.sIx n 0 lo : Nat) : Int) ∧ (sliceBounds lo hi none n).2.1 = ((HT.sIx n n hi : Nat) : Int) ∧ (sliceBounds lo hi none n).2.2 = 1 := by
  refine ⟨?_, ?_, rfl⟩
  · cases lo with
    | none => simp [sliceBounds, HT.sIx]
    | some i =>
      simp only [sliceBounds, HT.sIx, Option.getD_none, show (1 : Int) > 0 by decide, if_true]
      by_cases h : i < 0
      · simp only [h, if_true] <;> omega
      · simp only [h, if_false] <;> omega
  · cases hi with
    | none => simp [sliceBounds, HT.sIx]
    | some i =>
      simp only [sliceBounds, HT.sIx, Option.getD_none, show (1 : Int) > 0 by decide, if_true]
      by_cases h : i < 0
      · simp only [h, if_true] <;> omega
      · simp only [h, if_false] <;> omega
theorem slicePick_cut (its : List Value) (lo hi : Option Int) : slicePick its.toArray lo hi none = ((its.drop (HT.sIx its.length 0 lo)).take (HT.sIx its.length its.length hi - HT.sIx its.length 0 lo)).toArray := by
  obtain ⟨h1, h2, h3⟩ := slice_bounds lo hi its.toArray.size
  unfold slicePick
  rw [h1, h2, h3]
  simp only [sliceRange_one, pick_run, List.size_toArray] <;> rfl
/-- xs[lo:hi] of a list: a new list -/
def rSlL (K : PySem.W.Frag) : V → Option Int → Option Int → Hp → VK → Prop := fun x lo hi H Q => ∃ a xs, x = .ref a ∧ SqL K H a xs ∧ ∀ p, H p = none → Q (.ref p) (upd H p (.lst (cutV xs lo hi)))
theorem sl_list : SlR X (rSlL X.K) := by
  intro pins s σ H x v vl vu lo hi sl Q I rx hs pl pu h
  obtain ⟨a, xs, rfl, hx, q⟩ := h
  cases rx
  obtain ⟨its, r, ht, hz⟩ := I.list hx
  have hlen := r.length
  refine ⟨"list", _, slot_list_getitem.lookup, ht.isList.typeIs, ?_⟩
  refine wpAny_getItem_list_slice ht.isList hs pl pu .none (by simp) ?_ (by rw [List.size_toArray] <;> omega)
  rw [slicePick_cut, ← hlen]
  refine ⟨.ref s.heap.objs.size, _, I.laid (t' := s.toks) (o := .lst (cutV xs lo hi)) (fun b ob q => Heap.get?_push_of_some _ q) (Nat.le_refl _) ?_, rfl, q _ (I.hok.fresh (Nat.le_refl _))⟩
  exact ⟨Nat.le_trans (cutV_length xs lo hi) hz, _, 0, (r.drop (HT.sIx xs.length 0 lo)).take (HT.sIx xs.length xs.length hi - HT.sIx xs.length 0 lo), Heap.get?_push_size _ rfl⟩

theorem call_len_seq : CallR X (.builtin "len") (fun xs H Q => ∃ p ys, xs = [.ref p] ∧ (SqL X.K H p ys ∨ SqT X.K H p ys) ∧ Q (.int ys.length) H) := by
  intro pins s σ H xs us Q I r h
  obtain ⟨p, ys, rfl, hq, q⟩ := h
  obtain ⟨u, rfl, rx⟩ := vals1 r
  cases rx
  have hn := line63
  rcases hq with hq | hq
  · obtain ⟨its, r', pl, hz⟩ := I.list hq
    have hlen := r'.length
    exact Calls.call_len_list pl.isList (by simp only [List.size_toArray] <;> omega) ⟨.int ys.length, H, I.tok _, ⟨s.toks + 1, by rw [List.size_toArray, hlen]⟩, q⟩
  · obtain ⟨its, r', pl, hz⟩ := I.tuple hq
    have hlen := r'.length
    exact len_tuple pl (by simp only [List.size_toArray] <;> omega) ⟨.int ys.length, H, I.tok _, ⟨s.toks + 1, by rw [List.size_toArray, hlen]⟩, q⟩
theorem CallR.or {f : Value} {r r' : List V → Hp → VK → Prop} (h : CallR X f r) (h' : CallR X f r') : CallR X f (fun xs H Q => r xs H Q ∨ r' xs H Q) := by
  intro pins s σ H xs us Q I rs q
  rcases q with q | q
  · exact h pins s σ H xs us Q I rs q
  · exact h' pins s σ H xs us Q I rs q
theorem call_list_of : CallR X (.type "list") (fun xs H Q => ∃ p ys, xs = [.ref p] ∧ (SqL X.K H p ys ∨ SqT X.K H p ys) ∧ ∀ l, H l = none → Q (.ref l) (upd H l (.lst ys))) := by
  intro pins s σ H xs us Q I r h
  obtain ⟨p, ys, rfl, hq, q⟩ := h
  obtain ⟨u, rfl, rx⟩ := vals1 r
  cases rx
  have fin : ∀ (its : List Value), Vals ys its → ys.length ≤ sizeLine → ∀ (h' : Heap) (c' : Nat), (∀ b o', s.heap.get? b = some o' → h'.get? b = some o') →
      h'.get? s.heap.objs.size = some { cls := .type "list", dict := none, data := .seq its.toArray c', slots := #[] } → EP X pins σ Q (.ref s.heap.objs.size) { s with heap := h' } := fun its r' hz h' c' kp e =>
    ⟨.ref s.heap.objs.size, _, I.laid (t' := s.toks) kp (Nat.le_refl _) (show ObjOk X.prog X.w _ h' _ (.lst ys) from ⟨hz, its, c', r', e⟩), rfl, q _ (I.hok.fresh (Nat.le_refl _))⟩
  rcases hq with hq | hq
  · obtain ⟨its, r', pl, hz⟩ := I.list hq
    have hlen := r'.length
    obtain ⟨o, ho, hc, n, hd⟩ := pl.isList
    exact call_list_seq p (.inl rfl) ho hc hd (fun h' c' kp e => fin its r' hz h' c' kp e) (by simp only [List.size_toArray] <;> omega)
  · obtain ⟨its, r', pl, hz⟩ := I.tuple hq
    have hlen := r'.length
    obtain ⟨o, ho, hc, n, hd⟩ := pl
    exact call_list_seq p (.inr rfl) ho hc hd (fun h' c' kp e => fin its r' hz h' c' kp e) (by simp only [List.size_toArray] <;> omega)
/-- the value is of that builtin type -/
def tyV (K : PySem.W.Frag) (T : String) (x : V) (H : Hp) : Prop := match x with
  | .str _ => T = "str"
  | .int _ => T = "int"
  | .ref p => (T = "list" ∧ ∃ xs, SqL K H p xs) ∨ (T = "tuple" ∧ ∃ o, K.lookup p = some o ∧ o.cls = .type "tuple" ∧ o.dict = none) ∨
      (T = "dict" ∧ ((∃ kvs, H p = some (.dK kvs)) ∨ ∃ kvs, H p = some (.dT kvs))) ∨ (T = "set" ∧ ∃ S n, H p = some (.set S n))
  | _ => False
theorem tyV_is {pins : List (Addr × Obj)} {σ : St} {H : Hp} {s : Shared} {T : String} {x : V} {v : Value} (I : Inv X pins σ H s) (r : RelV x v) (ty : tyV X.K T x H) :
    s.TypeIs v T ∧ ∀ a, v = .ref a → ∃ ob, s.heap.get? a = some ob ∧ ob.dict = none := by
  cases x with
  | str z =>
    obtain ⟨t, rfl⟩ := r
    cases (show T = "str" from ty)
    exact ⟨typeIs_str s z t, fun _ e => nomatch e⟩
  | int i =>
    obtain ⟨t, rfl⟩ := r
    cases (show T = "int" from ty)
    exact ⟨typeIs_int s i t, fun _ e => nomatch e⟩
  | ref p =>
    cases r
    rcases ty with ⟨rfl, xs, hq⟩ | ⟨rfl, o, hk, hc, hd⟩ | ⟨rfl, hk⟩ | ⟨rfl, S, n, hk⟩
    · obtain ⟨its, _, pl, _⟩ := I.list hq
      refine ⟨pl.isList.typeIs, fun a e => ?_⟩
      cases e
      obtain ⟨o, n, e, c, hd, _⟩ := pl
      exact ⟨o, e, hd⟩
    · refine ⟨⟨o, I.kIn p o hk, hc⟩, fun a e => ?_⟩
      cases e
      exact ⟨o, I.kIn _ o hk, hd⟩
    · have z : ∃ o, s.heap.get? p = some o ∧ o.ExactDict := by
        rcases hk with ⟨kvs, hk⟩ | ⟨kvs, hk⟩
        · obtain ⟨_, _, _, _, o, _, _, e, ex, _⟩ := I.hok p _ hk
          exact ⟨o, e, ex⟩
        · obtain ⟨_, _, _, _, o, _, _, e, ex, _⟩ := I.hok p _ hk
          exact ⟨o, e, ex⟩
      obtain ⟨o, e, ex⟩ := z
      refine ⟨⟨o, e, ex.1⟩, fun a e2 => ?_⟩
      cases e2
      exact ⟨o, e, ex.2.1⟩
    · obtain ⟨o, _, _, _, e, ex, _⟩ := I.hok p _ hk
      refine ⟨⟨o, e, ex.1⟩, fun a e2 => ?_⟩
      cases e2
      exact ⟨o, e, ex.2.1⟩
  | _ => exact False.elim ty
def tBM (K : PySem.W.Frag) (T : String) (r : V → List V → Hp → VK → Prop) (to : TE) (t : TA) : TE := fun σ H Q => to σ H fun x H1 => tyV K T x H1 ∧ t σ H1 fun xs H2 => r x xs H2 Q
variable {o e : Expr} {es : List Expr} {to : TE} {t : TA} {name : Str} {apos cpos : Pos} {T id : String} {r : V → List V → Hp → VK → Prop}
theorem pe_bm (pa : PlainAttrs T) (slot : Slot T name id) (hty : typeOf (.builtin id) = pure (.type "method_descriptor")) (hm : MtR X id r) (ho : PE X o to) (ha : PA X (e :: es) t)
    (hbase : attributeBase o name X.env (eval o X.env) = eval o X.env := by rfl)
    (hfew : ((backTo cpos (starEach (e :: es) X.env)).all (fun x => !x.1) && (backToKw cpos (keywordEach [] X.env)).all (fun x => x.1.isSome)
      && decide ((e :: es).length + ([] : List Keyword).length + (if ([] : List Keyword).isEmpty then 0 else 1) < 30)) = true := by rfl)
    (hline : (apos.endLine == cpos.line) = true := by rfl) (hs : starEach (e :: es) X.env = (false, eval e X.env) :: starEach es X.env := by rfl) (hplain : (backTo cpos (starEach es X.env)).any (·.1) = false := by rfl) :
    PE X (.Call (.Attribute o name apos) (e :: es) [] cpos) (tBM X.K T r to t) := by
  intro pins s σ H Q I h
  refine wpAny_Call_method_late hbase hfew hline rfl (thn (ho pins s σ H _ I h) fun v s1 ⟨x, H1, I1, r1, ty, q1⟩ => ?_)
  obtain ⟨h1, h2⟩ := tyV_is I1 r1 ty
  refine ⟨T, id, pa, slot, hty, h1, h2, ?_⟩
  have hA := ha cpos pins s1 σ H1 _ I1 q1
  rw [hs] at hA ⊢
  refine Calls.callWith_builtin (by show (false || (backTo cpos (starEach es X.env)).any (·.1)) = false; rw [hplain] <;> rfl) (Calls.evalArgs_plain ?_)
  exact thn hA fun us s2 ⟨vs, H2, I2, r2, q2⟩ => hm pins s2 σ H2 x vs v us Q I2 r1 r2 q2
/- xs.append(e), list.index on a module's tuple .. are MtR facts of 06m -/
end
end L2

namespace L2
open PySem PySem.Spec PyProof.Rows

def MtM (X : Cx) (id : String) (r : V → List V → Hp → VK → Prop) : Prop :=
  ∀ (pins : List (Addr × Obj)) (s : Shared) (σ : St) (H : Hp) (x : V) (xs : List V) (v : Value) (us : List Value) (Q : VK), Inv X pins σ H s → RelV x v → Vals xs us → r x xs H Q →
    wpAny (model X.prog X.w) X.A (call (.builtin id) (v :: us)) (EP X pins σ Q) X.xe s

theorem Vals.one : ∀ {x : V} {us : List Value}, Vals [x] us → ∃ u, us = [u] ∧ RelV x u
  | _, _, .cons r .nil => ⟨_, rfl, r⟩
theorem Vals.two : ∀ {x y : V} {us : List Value}, Vals [x, y] us → ∃ u v, us = [u, v] ∧ RelV x u ∧ RelV y v
  | _, _, _, .cons r (.cons q .nil) => ⟨_, _, rfl, r, q⟩
theorem Vals.zero : ∀ {us : List Value}, Vals [] us → us = []
  | _, .nil => rfl
theorem Vals.dropLast {xs : List V} {us : List Value} (h : Vals xs us) : Vals xs.dropLast us.dropLast := by
  induction h with
  | nil => exact .nil
  | cons r t ih =>
    cases t with
    | nil => exact .nil
    | cons q t' => exact .cons r ih
theorem Vals.reverse {xs : List V} {us : List Value} (h : Vals xs us) : Vals xs.reverse us.reverse := by
  induction h with
  | nil => exact .nil
  | cons r t ih => rw [List.reverse_cons, List.reverse_cons]; exact Vals.append ih (.cons r .nil)
theorem Vals.rep {xs : List V} {us : List Value} (h : Vals xs us) : ∀ k : Nat, Vals (List.replicate k xs).flatten (List.replicate k us).flatten
  | 0 => .nil
  | k + 1 => by
    rw [List.replicate_succ, List.replicate_succ, List.flatten_cons, List.flatten_cons]
    exact Vals.append h (Vals.rep h k)
theorem foldl_rep (its : List Value) : ∀ (k : Nat) (acc : List Value),
    List.foldl (fun x1 x2 => x1 ++ x2) acc.toArray (List.replicate k its.toArray) = (acc ++ (List.replicate k its).flatten).toArray
  | 0, acc => by simp
  | k + 1, acc => by
    have e : acc.toArray ++ its.toArray = (acc ++ its).toArray := by simp
    have e2 : (acc ++ its) ++ (List.replicate k its).flatten = acc ++ (List.replicate (k + 1) its).flatten := by
      rw [List.replicate_succ, List.flatten_cons, List.append_assoc]
    rw [← e2, ← foldl_rep its k (acc ++ its), ← e, List.replicate_succ, List.foldl_cons]

section
variable {X : Cx} {pins : List (Addr × Obj)} {σ : St} {H : Hp} {s : Shared} {l b : Addr} {xs ys zs : List V}

theorem Inv.lset {its its' : List Value} {n : Nat} {f : Array Value → Array Value} {t' : Nat} (I : Inv X pins σ H s) (hH : H l = some (.lst xs))
    (e : s.heap.get? l = some { cls := .type "list", data := .seq its.toArray n }) (hf : f its.toArray = its'.toArray) (hv : Vals ys its') (hz : ys.length ≤ sizeLine) :
    Inv X pins σ (upd H l (.lst ys)) { s with heap := s.heap.update l (Obj.mapSeq f), toks := t' } := by
  have q := PySem.IsL.update e f
  rw [hf] at q
  refine I.write (x := l) (e := l) (by rw [hH]; exact trivial) (.inl rfl) (fun b' u hb hu => (Heap.get?_update_other s.heap (Obj.mapSeq f) (Ne.symm hb)).trans hu) ⟨_, q⟩ ?_
  exact ⟨hz, its', _, hv, q⟩
theorem Inv.lnew {its : List Value} {t' : Nat} (I : Inv X pins σ H s) (hv : Vals ys its) (hz : ys.length ≤ sizeLine) :
    Inv X pins σ (upd H s.heap.objs.size (.lst ys)) { s with heap := s.heap.push { cls := .type "list", data := .seq its.toArray }, toks := t' } :=
  I.laid (fun _ _ q => Heap.get?_push_of_some _ q) (Nat.le_refl _) ⟨hz, its, 0, hv, Heap.get?_push_size _ rfl⟩
theorem Inv.fresh (I : Inv X pins σ H s) : H s.heap.objs.size = none := I.hok.fresh (Nat.le_refl _)
theorem Inv.lstM (I : Inv X pins σ H s) (hH : H l = some (.lst xs)) : xs.length ≤ sizeLine ∧ ∃ (its : List Value) (n : Nat), Vals xs its ∧ xs.length = its.length ∧ s.heap.get? l = some { cls := .type "list", data := .seq its.toArray n } := by
  obtain ⟨z, its, n, r, e⟩ := I.hok l _ hH
  exact ⟨z, its, n, r, r.length, e⟩

theorem notLongL {n : Nat} (h : n ≤ sizeLine) : Builtin.List.listTooLong n = false := by
  unfold Builtin.List.listTooLong
  exact decide_eq_false (by omega)
end

section
variable {X : Cx}

def rAppend : V → List V → Hp → VK → Prop := fun x vs H Q => ∃ l xs y, x = .ref l ∧ vs = [y] ∧ H l = some (.lst xs) ∧ xs.length < sizeLine ∧ Q .non (upd H l (.lst (xs ++ [y])))
theorem mt_append : MtM X "list.append" rAppend := by
  intro pins s σ H x vs v us Q I rx rv h
  obtain ⟨l, xs, y, rfl, rfl, hH, hz, q⟩ := h
  cases rx
  obtain ⟨u, rfl, ru⟩ := rv.one
  obtain ⟨z, its, n, r, hl, e⟩ := I.lstM hH
  refine call_meets F.slot_list_append ⟨_, e, rfl⟩ F.entry_list_append (F.args_list_append_2 _ _) (PySem.list_append l its.toArray n u (by rw [List.size_toArray]; omega)) ⟨e, ?_⟩
  refine ⟨.non, _, I.lset (its' := its ++ [u]) hH e (by simp) (r.append (.cons ru .nil)) ?_, rfl, q⟩
  rw [List.length_append, List.length_singleton]
  omega

def rCat : R2 := fun x y H Q => ∃ l b xs zs, x = .ref l ∧ y = .ref b ∧ H l = some (.lst xs) ∧ H b = some (.lst zs) ∧ xs.length + zs.length ≤ sizeLine ∧ ∀ p, H p = none → Q (.ref p) (upd H p (.lst (xs ++ zs)))
theorem op_cat : OpR X (binaryOp .Add) rCat := by
  intro pins s σ H x y v u Q I rx ry h
  obtain ⟨l, b, xs, zs, rfl, rfl, hH, hB, hz, q⟩ := h
  cases rx
  cases ry
  obtain ⟨z, its, n, r, hl, e⟩ := I.lstM hH
  obtain ⟨z2, its2, n2, r2, hl2, e2⟩ := I.lstM hB
  refine PySem.P.add_list e e2 ?_ (by rw [List.size_toArray, List.size_toArray]; omega)
  have ea : its.toArray ++ its2.toArray = (its ++ its2).toArray := by simp
  rw [ea]
  exact ⟨.ref _, _, I.lnew (t' := s.toks) (r.append r2) (by rw [List.length_append]; omega), rfl, q _ I.fresh⟩
/-- a list times an int (a negative one is nothing) -/
def rRep : R2 := fun x y H Q => ∃ l k xs, x = .ref l ∧ y = .int k ∧ H l = some (.lst xs) ∧ -(2 ^ 63) ≤ k ∧ k < 2 ^ 63 ∧ xs.length * k.toNat ≤ sizeLine ∧
  ∀ p, H p = none → Q (.ref p) (upd H p (.lst (List.replicate k.toNat xs).flatten))
theorem len_rep {α : Type} (xs : List α) (k : Nat) : (List.replicate k xs).flatten.length = k * xs.length := by
  induction k with
  | zero => simp
  | succ k ih => rw [List.replicate_succ, List.flatten_cons, List.length_append, ih, Nat.succ_mul, Nat.add_comm]
theorem op_rep : OpR X (binaryOp .Mult) rRep := by
  intro pins s σ H x y v u Q I rx ry h
  obtain ⟨l, k, xs, rfl, rfl, hH, h1, h2, hz, q⟩ := h
  cases rx
  obtain ⟨t, rfl⟩ := ry
  obtain ⟨z, its, n, r, hl, e⟩ := I.lstM hH
  have hlen : its.toArray.size * k.toNat ≤ sizeLine := by rw [List.size_toArray, ← hl]; exact hz
  have hcap : ¬ its.toArray.size * k.toNat > (2 ^ 63 - 1) / 8 := by
    have : (sizeLine : Nat) ≤ (2 ^ 63 - 1) / 8 := by decide
    omega
  have hfit : ¬ (!Builtin.List.listFitsIndex k) = true := by
    rw [fitsIndex_both h1 h2]
    exact Bool.false_ne_true
  have hlong : ¬ Builtin.List.listTooLong (its.toArray.size * k.toNat) = true := by
    rw [notLongL hlen]
    exact Bool.false_ne_true
  have hnew : List.foldl (fun x1 x2 => x1 ++ x2) #[] (List.replicate (if its.toArray.isEmpty = true then 0 else k.toNat) its.toArray) = (List.replicate k.toNat its).flatten.toArray := by
    have f0 : ∀ m : Nat, List.foldl (fun x1 x2 => x1 ++ x2) #[] (List.replicate m its.toArray) = (List.replicate m its).flatten.toArray := fun m => by
      have := foldl_rep its m []
      rw [List.nil_append] at this
      exact this
    rw [f0]
    cases its with
    | nil => simp
    | cons a r' => rw [if_neg (by simp)]
  refine wpAny_binaryOp_repeat_ref (T := "list") (U := "int") (by decide) ⟨_, e, rfl⟩ (fun s' => typeIs_int s' k t) noFill_list_mul F.fills_int_mul F.slot_int_rmul repeat_list F.slot_int_index.lookup
    (call_meets F.slot_int_rmul (typeIs_int s k t) F.entry_int_rmul (F.args_int_rmul_2 _ _) (int___rmul___int_list k t l its.toArray n)
      ⟨e, rfl, ⟨_, e, rfl⟩, call_meets F.slot_list_mul ⟨_, e, rfl⟩ F.entry_list_mul (F.args_list_mul_2 _ _) (AutoListH.list___mul___list_int_3 l its.toArray n k t hfit hcap hlong) ⟨e, ?_⟩⟩)
  rw [hnew]
  exact ⟨.ref _, _, I.lnew (t' := s.toks) (r.rep k.toNat) (by rw [len_rep, Nat.mul_comm]; exact hz), rfl, q _ I.fresh⟩

end

section
variable {prog : Program} {w : World} {A : Around} {E : Value → Shared → Prop} {s : Shared}
end

section
variable {X : Cx}
end
end L2

namespace Att
open PySem PySem.W PySem.Calls PyProof.Rows

theorem ints_of_wellAll {P : Params} {h : Heap} : ∀ (ns : List Int) (vs : List Value), WellAll P h vs (ns.map WData.int) → IntsAre vs ns := by
  intro ns
  induction ns with
  | nil =>
    intro vs w
    rw [List.map_nil] at w
    cases w
    exact .nil
  | cons n ns ih =>
    intro vs w
    rw [List.map_cons] at w
    cases w with
    | cons a b =>
      cases a
      exact .cons _ _ (ih _ b)

theorem script_of {l : OpenLaw} {n : Nat} (hn : l.most = some n) {P : Params} {h : Heap} {args : List WData} {vals : List Value}
    (hpre : l.row.toRowW.claim.pre args = true) (hwl : WellAll P h vals args) :
    ∃ a vs ns, vals = [Value.ref a] ∧ args = [WData.list (ns.map WData.int)] ∧ h.get? a = some { cls := .type "list", data := .seq vs.toArray } ∧ IntsAre vs ns ∧ ns.length ≤ n := by
  have hsh : WShape.hasAll [] args [.list .int] = true := (pre_splitW hpre).1
  have hc : l.pre.holds [] { args := args } = true := (pre_splitW hpre).2
  obtain ⟨d, r, rfl, h1, h2⟩ := hasAllW_cons hsh
  obtain rfl := hasAllW_nil h2
  obtain ⟨xs, rfl, h3⟩ := hasW_list h1
  obtain ⟨ns, rfl⟩ := items_int h3
  have hlen : ns.length ≤ n := by
    unfold OpenLaw.pre at hc
    have h4 : (WTm.not (.lt (.lit (.int (n : Int))) (.len (.arg 0)))).holds [] { args := [.list (ns.map .int)] } = true := by
      have h4 := (holds_andW hc).1
      rw [hn] at h4
      exact h4
    have h5 := condW_of h4 (w_not (w_lt w_lit (w_len_list (w_arg rfl))))
    rw [List.length_map] at h5
    refine Nat.le_of_not_lt fun q => ?_
    have q' : (n : Int) < ((ns.length : Nat) : Int) := by omega
    first
      | (rw [decide_eq_true q'] at h5; exact absurd h5 (by decide))
      | (simp at h5; omega)
  cases hwl with
  | cons w1 w2 =>
    cases w2
    cases w1 with
    | list ho hall => exact ⟨_, _, ns, rfl, rfl, ho, ints_of_wellAll ns _ hall, hlen⟩

theorem post_true (l : OpenLaw) (args : List WData) : l.row.toRowW.claim.post args (.bool true) args = true :=
  postW_of (r := l.row.toRowW) (X := (true == true))
    (show WShape.has [] (.bool true) .bool = true by first | rfl | decide | simp [WShape.has, WShape.arms, WShape.armsAll])
    (show (WTm.eq .res (.lit (.bool true))).value [] { args := args, res := some (.bool true), after := args } = some (.bool (true == true)) from w_eq_bool (w_res rfl) w_lit) rfl

/-- the same from a codeAny of the CALL (for a layer whose function contracts speak of calls) -/
theorem attach_call {l : OpenLaw} {n : Nat} {q : Program} {loose : List Str} {XP : (Str → Option Value) → Heap → Prop} {YP : World → Heap → Prop} {d : DefRec}
    (hn : l.most = some n) (hdf : d.params.defaults = [])
    (call : ∀ (w : World) (s₀ s₁ : Shared) (mg mb : Str → Option Value) (fa : Addr) (o : Obj) (pm cd doc : Value) (a : Addr) (vs : List Value) (ns : List Int),
      Ground q loose [] XP w s₀ mg mb s₁.heap → YP w s₁.heap →
      s₁.heap.get? fa = some o → o.data = .func (docDef d.name d.params d.body d.scope pm cd doc) → s₁.heap.CodeRec cd d.name → mg d.name = some (.ref fa) →
      s₁.heap.get? a = some { cls := .type "list", data := .seq vs.toArray } → IntsAre vs ns → ns.length ≤ n → s₁.gens = #[] →
      codeAny (model l.prog w) callerA (.call (.ref fa) ⟨[.ref a], []⟩) (fun r s' => r = .ok (.ret (.bool true)) ∧ OldK s₁.heap s'.heap ∧ s'.os = s₁.os ∧ AllBare s'.gens) s₁) :
    WalkO q loose XP YP l.row.toRowW d [] (fun f vs => PySem.call f vs) := by
  intro w s₀ s₁ mg mb G Y fa o pm cd doc dV kV ho hd hcd hD hmg hg args vals as hpre hlay hrd hwl hlo
  obtain rfl : dV = .none := Dflts.none hD hdf
  obtain rfl : kV = .none := Dflts.noKw hD
  obtain ⟨a, vs, ns, rfl, rfl, hobj, hints, hlen⟩ := script_of hn hpre hwl
  refine enter_call (codeAny_mono (call w s₀ s₁ mg mb fa o pm cd doc a vs ns G Y ho (fd_plain hd) hcd hmg hobj hints hlen hg) fun r s' hq => ?_)
  obtain ⟨rfl, h2, h3, h4⟩ := hq
  exact ⟨.inl ⟨.bool true, .bool true, [], rfl, fun _ => rfl, .bool true, post_true l _, fun _ => ⟨List.Pairwise.nil, fun _ hm => (nomatch hm)⟩⟩, h2, h3, h4⟩

section
variable {prog : Program} {w : World} {A : Around} {E : Value → Shared → Prop} {s : Shared} {K : Frag}

def ledger (h : Heap) (L d : Addr) : List (Addr × Obj) := (List.range h.objs.size).filterMap fun a => if a = L ∨ a = d then none else (h.get? a).map fun o => (a, o)
end
end Att

namespace L2
open PySem PySem.Spec PyProof.Rows

theorem vals_ints : ∀ {vs : List Value} {ns : List Int}, IntsAre vs ns → Vals (ns.map V.int) vs
  | _, _, .nil => .nil
  | _, _, .cons n t h => .cons ⟨t, rfl⟩ (vals_ints h)

/-- nothing is tracked but the script, known to the object (or it is an object of the module) -/
def Only (H : Hp) : Prop := ∀ b, H b = none ∨ ∃ o xs, H b = some (.frz o (.lst xs))

/-- THE HEAD: the law's promise, at the heap behind the top. F, the promise of the law's def, may use that base is part of the heap (so K.In base, base.Ns mainGlobals mg stand in Mod) -/
theorem law_call {P : Program} {w : World} {K : PySem.W.Frag} {mg mb : Str → Option Value} {CX : CXT} {k : Nat} {fa a : Addr} {fd : FuncData} {x : Str} {sp : Sp} {s₁ : Shared} {vs : List Value} {ns : List Int}
    (KX : K.In s₁.heap) (hns : s₁.heap.Ns mainGlobals mg) (hb : s₁.heap.Ns builtinsNs mb) (hbb : ∀ x : Str, x ≠ "__name__" → mb x = bootBuiltins x) (hlim : s₁.heap.NoLimit) (hg : s₁.gens = #[])
    (ha : s₁.heap.get? a = some { cls := .type "list", data := .seq vs.toArray }) (hi : IntsAre vs ns) (hl : ns.length ≤ sizeLine) (hr : Room k callerA)
    (F : ∀ base : Heap, K.In base → base.Ns mainGlobals mg → FnOk P w K mg base CX k fa fd [x] sp) (hbind : ∀ (s : Shared) (u : Value), BindsTo s fd ⟨[u], []⟩ [(x, u)])
    (hsp : ∀ H : Hp, Only H → SqL K H a (ns.map V.int) → sp [.ref a] H (fun v _ => v = .bl true) fun _ _ _ => False)
    (hCX : ∀ H e s', CX [] H s₁ (fun _ _ _ => False) e s' → False) :
    codeAny (model P w) callerA (.call (.ref fa) ⟨[.ref a], []⟩) (fun r s' => r = .ok (.ret (.bool true)) ∧ OldK s₁.heap s'.heap ∧ s'.os = s₁.os ∧ AllBare s'.gens) s₁ := by
  have rv := vals_ints hi
  have lenV := hi.length
  -- from an abstract heap in which nothing but the script may be tracked
  have core : ∀ H : Hp, Only H → SqL K H a (ns.map V.int) → HOk P w H s₁.heap → (∀ b, H b ≠ none → b = a) → (H a ≠ none → K.lookup a = none) →
      codeAny (model P w) callerA (.call (.ref fa) ⟨[.ref a], []⟩) (fun r s' => r = .ok (.ret (.bool true)) ∧ OldK s₁.heap s'.heap ∧ s'.os = s₁.os ∧ AllBare s'.gens) s₁ := by
    intro H hO hS hok hA hK
    have base_of : ∀ {b : Addr} {o : Obj}, s₁.heap.get? b = some o → H b = none → (hidT s₁.heap H).get? b = some o := fun e n => hidT_get e n
    have noA : ∀ {b : Addr} {o : Obj} {es : Array DictEntry} {ep : Nat}, s₁.heap.get? b = some o → o.data = .dict es ep → H b = none := fun {b o es ep} e d => by
      cases q : H b with
      | none => rfl
      | some u =>
        have e' : b = a := hA b (by rw [q]; simp)
        subst e'
        rw [ha] at e; cases e
        have d' : Data.seq vs.toArray _ = Data.dict es ep := d
        cases d'
    have nsK : ∀ {b : Addr} {m : Str → Option Value}, s₁.heap.Ns b m → (hidT s₁.heap H).Ns b m := fun {b m} ⟨o, es, ep, e, d, r⟩ => ⟨o, es, ep, base_of e (noA e d), d, r⟩
    have hKb : K.In (hidT s₁.heap H) := fun b o e => base_of (KX b o e) (by
      cases q : H b with
      | none => rfl
      | some u =>
        have e' : b = a := hA b (by rw [q]; simp)
        subst e'
        rw [hK (by rw [q]; simp)] at e; cases e)
    have hM : Mod K mg (hidT s₁.heap H) := ⟨hKb, nsK hns, ⟨mb, nsK hb, hbb⟩, let ⟨mc, h1, h2⟩ := hlim; ⟨mc, nsK h1, h2⟩⟩
    have e0 : Env0 P w K mg (hidT s₁.heap H) callerA [] s₁ H := ⟨rfl, hM, fun b o e => of_hidT e, Nat.le_of_eq (hidT_size _ _), trivial, fun b hb => absurd (show b ∈ ([] : List Addr) from hb) (by simp), hok, .of_eq hg⟩
    refine codeAny_mono ((F _ hKb (nsK hns)).run callerA [] s₁ H ⟨[.ref a], []⟩ [.ref a] [.ref a] _ _ hr e0 (hbind s₁ (.ref a)) (.cons rfl .nil) (hsp H hO hS)) fun r s' h => ?_
    cases r with
    | error e => exact (hCX H e s' h).elim
    | ok fl =>
      cases fl with
      | next => exact False.elim h
      | brk => exact False.elim h
      | cont => exact False.elim h
      | ret u =>
        obtain ⟨v, H', os, bare, un, hok', r', q⟩ := h
        have q' : v = .bl true := q
        subst q'
        obtain rfl : u = Value.bool true := r'
        refine ⟨rfl, OldK.of_keep fun b o e => ?_, os, bare⟩
        cases q : H b with
        | none => exact un.keep b o e q (by intro z; exact absurd (show b ∈ ([] : List Addr) from z) (by simp)) (by simp)
        | some u =>
          rcases hO b with z | ⟨ob, xs, z⟩
          · rw [q] at z; cases z
          · have z2 := un.frzs b ob _ z
            obtain ⟨e1, _⟩ := hok b _ z
            obtain ⟨e2, _⟩ := hok' b _ z2
            rw [e] at e1; cases e1
            exact e2
  cases hk : K.lookup a with
  | some o =>
    -- the script is one of the module's own objects
    have e := KX a o hk
    rw [ha] at e
    cases e
    refine core (fun _ => none) (fun _ => .inl rfl) (.inr ⟨_, vs.toArray, _, hk, rfl, rfl, rfl, by rw [List.size_toArray, lenV]; exact hl, by simpa using rv⟩) (fun b u z => by have z' : (none : Option HO) = some u := z; cases z') (fun b z => absurd rfl z) fun z => absurd rfl z
  | none =>
    refine core (fun b => if b = a then some (.frz { cls := .type "list", data := .seq vs.toArray } (.lst (ns.map V.int))) else none) (fun b => ?_) (.inl (.inr ⟨{ cls := .type "list", data := .seq vs.toArray }, if_pos rfl⟩)) (fun b u z => ?_) (fun b z => ?_) fun _ => hk
    · by_cases hb : b = a
      · exact .inr ⟨_, _, if_pos hb⟩
      · exact .inl (if_neg hb)
    · by_cases hb : b = a
      · have z' := (if_pos hb).symm.trans z
        cases z'
        subst hb
        exact ⟨ha, by rw [List.length_map]; exact hl, vs, _, rv, ha⟩
      · have z' := (if_neg hb).symm.trans z
        cases z'
    · by_cases hb : b = a
      · exact hb
      · exact absurd (if_neg hb) z
end L2

namespace L2
open PySem PySem.Spec PyProof.Rows

abbrev KOf {K : PySem.W.Frag} {h : Heap} (_ : K.In h) : PySem.W.Frag := K

/-- the goal that k_head leaves (case hc), from the law's promise. F gives the function object fd (K's own) once, then the promise over every base -/
theorem walk_of {l : PySem.W.OpenLaw} {n k : Nat} {q : Program} {loose : List Str} {XP : (Str → Option Value) → Heap → Prop} {YP : World → Heap → Prop} {d : DefRec} {K : Params → PySem.W.Frag} {CX : World → CXT} {sp : World → Sp} {x : Str}
    (hn : l.most = some n) (hn2 : n ≤ sizeLine) (hdf : d.params.defaults = []) (hr : Room k callerA)
    (hY : ∀ (w : World) (h : Heap), YP w h → (K w.params).In h)
    (F : ∀ (w : World) (mg : Str → Option Value) (fa : Addr) (h : Heap), (K w.params).In h → h.Ns mainGlobals mg → mg d.name = some (.ref fa) →
      ∃ fd : FuncData, (∀ (s : Shared) (u : Value), BindsTo s fd ⟨[u], []⟩ [(x, u)]) ∧
        ∀ base : Heap, (K w.params).In base → base.Ns mainGlobals mg → FnOk l.prog w (K w.params) mg base (CX w) k fa fd [x] (sp w))
    (hsp : ∀ (w : World) (H : Hp) (a : Addr) (ns : List Int), ns.length ≤ n → Only H → SqL (K w.params) H a (ns.map V.int) → sp w [.ref a] H (fun v _ => v = .bl true) fun _ _ _ => False)
    (hCX : ∀ (w : World) (H : Hp) (s : Shared) (e : Value) (s' : Shared), CX w [] H s (fun _ _ _ => False) e s' → False) :
    PySem.W.WalkO q loose XP YP l.row.toRowW d [] (fun f vs => PySem.call f vs) := by
  refine Att.attach_call hn hdf fun w s₀ s₁ mg mb fa o pm cd doc a vs ns G Y ho hd hcd hmg hobj hints hlen hg => ?_
  have KX := hY w _ Y
  obtain ⟨fd, hb, hF⟩ := F w mg fa _ KX G.T.g hmg
  exact law_call KX G.T.g G.T.b G.T.builtins G.T.nolimit hg hobj hints (Nat.le_trans hlen hn2) hr hF hb (fun H hO hS => hsp w H a ns hlen hO hS) fun H e s' => hCX w H s₁ e s'
end L2

/- THE LAST THEOREM (shape; LID, My.* are yours):
   My.Adr: a structure of the addresses that your layer names (classes, functions); My.Txt K t: a structure (Prop) of the equations over K;
   My.txt_mk : {K} {implicit addresses ..} (e1 : nsIn K mainGlobals "law" = some (some (.ref f))) (e2 : K.lookup f = some ⟨oc, od, .func (fnOf "law" "law" params body scope dV kV doc pm an cdv ct), sl⟩) (e3 : codeIn K cdv "law" = true) .. : ∃ t, My.Txt K t

set_option maxRecDepth 100000 in
set_option maxHeartbeats 0 in
theorem PySem.Challenge.cw_LID_holds : PySem.Challenge.rw_LID.Holds := by
  w_on; o_law; k_head; (case hw => w_witness2)
  k_fill
  refine L2.walk_of (l := PySem.Challenge.rw_LID) (n := 63) (k := 40) (x := "script") (CX := fun w => ..) (sp := fun _ => My.sp_law) rfl (by decide) rfl ⟨rfl, by decide, by decide⟩ (fun w h Y => PySem.W.kIn_of Y) ?F ?S ?C
  case F =>
    intro w mg fa h KX G hmg
    have T : ∃ t, My.Txt (L2.KOf KX) t := by
      dsimp only [L2.KOf]                          -- K must stand as «<heap const> w.params» for k_is
      refine' My.txt_mk ?e1 ?e2 ?e3 ..
      (case e1 => PySem.W.k_is)                    -- in the order: a name -> its address -> its object -> its parts
      (case e2 => PySem.W.k_is)
      ..
    obtain ⟨t, T⟩ := T
    have e0 := hmg.symm.trans (PySem.W.mg_of KX G T.law)
    cases e0                                       -- fa is the law's own address
    exact ⟨_, fun s u => .of_eq rfl, fun base kb nb => My.law_fn T kb nb⟩     -- if «.of_eq rfl» comes too early: refine' ⟨_, ?b, fun base kb nb => My.law_fn T kb nb⟩; exact fun s u => .of_eq rfl
  case S => exact fun w H a ns hl hO hS => ..
  case C => exact ..
(the tactic k_is has no namespace: write k_is) -/

namespace L2
open PySem PySem.Spec PyProof.Rows

def defArgs (s : Stmt) : Arguments := match s with
  | .FunctionDef _ a _ _ _ _ _ _ _ _ => a
  | _ => { posonlyargs := [], args := [], vararg := none, kwonlyargs := [], kw_defaults := [], kwarg := none, defaults := [] }
def defBody (s : Stmt) : List Stmt := match s with
  | .FunctionDef _ _ b _ _ _ _ _ _ _ => b
  | _ => []
def defScope (s : Stmt) : Scope := match s with
  | .FunctionDef _ _ _ _ _ _ sc _ _ _ => sc
  | _ => { kind := .function, names := [], isGenerator := false, isCoroutine := false }

abbrev CX0 : CXT := fun _ _ _ _ _ _ => False
abbrev E0 : XK := fun _ _ _ => False
theorem pass0 {X : Cx} : Passes CX0 X E0 := fun _ _ _ _ _ _ _ h => h.elim

structure Fun (K : PySem.W.Frag) (x qual : Str) (st : Stmt) (f : Addr) (fd : FuncData) : Prop where
  ex : ∃ (oc : Value) (od : Option Addr) (kV doc pm : Value) (an : Option Addr) (cdv ct : Value) (osl : Array (Option Value)),
    fd = PySem.W.fnOf x qual (defArgs st) (defBody st) (defScope st) .none kV doc pm an cdv ct ∧ K.lookup f = some ⟨oc, od, .func fd, osl⟩ ∧ PySem.W.codeIn K cdv qual = true
  kp : PySem.W.keepIn K (.ref f) = true
section
variable {P : Program} {w : World} {K : PySem.W.Frag} {mg : Str → Option Value} {base : Heap}
/-- THE RULE for a def: its body as a term of rules, and the reading of that term -/
theorem Fun.ok {x qual : Str} {st : Stmt} {f : Addr} {fd : FuncData} {N ps : List Str} {k : Nat} {sp : Sp} (F : Fun K x qual st f fd) (S : FnScope N ps (defScope st)) (len : ∀ vs H Q E, sp vs H Q E → vs.length = ps.length)
    (hbody : ∀ (cdv : Value) (A : Around) (outer : List Env) (s : Shared) (H : Hp) (vs : List V) (Q : VK) (E : XK), Room k (A.deeper (envOfC qual (defScope st) s.heap.objs.size f cdv)) → sp vs H Q E →
      ∃ t, PSs (cxOf CX0 P w K mg base N qual (defScope st) f cdv A outer s H E).nox (defBody st) t ∧ t { nx := fun _ H' => Q .non H', rt := Q } (start N vs) H) : FnOk P w K mg base CX0 (k + 1) f fd ps sp := by
  obtain ⟨oc, od, kV, doc, pm, an, cdv, ct, osl, rfl, lk, hcd⟩ := F.ex
  refine fn_of lk hcd S len fun A outer s H vs Q E hr hsp => ?_
  obtain ⟨t, h, q⟩ := hbody cdv A outer s H vs Q E hr hsp
  exact ⟨t, h.nox, q⟩
/-- how its arguments bind (no defaults): h is «fun _ _ _ _ _ _ us hl => match us, hl with | [_, _], _ => rfl», one _ a parameter -/
theorem Fun.binds {x qual : Str} {st : Stmt} {f : Addr} {fd : FuncData} {ps : List Str} (F : Fun K x qual st f fd)
    (h : ∀ (kV doc pm : Value) (an : Option Addr) (cdv ct : Value) (us : List Value), us.length = ps.length → bindArgs (PySem.W.fnOf x qual (defArgs st) (defBody st) (defScope st) .none kV doc pm an cdv ct) ⟨us, []⟩ = pure (ps.zip us)) : Binds K fd ps [] := by
  obtain ⟨oc, od, kV, doc, pm, an, cdv, ct, osl, rfl, lk, hcd⟩ := F.ex
  exact .all (h kV doc pm an cdv ct)
theorem fun_mk {x qual : Str} {st : Stmt} {f : Addr} {oc : Value} {od an : Option Addr} {osl : Array (Option Value)} {kV doc pm cdv ct : Value} (l : K.lookup f = some ⟨oc, od, .func (PySem.W.fnOf x qual (defArgs st) (defBody st) (defScope st) .none kV doc pm an cdv ct), osl⟩)
    (c : PySem.W.codeIn K cdv qual = true) (k : PySem.W.keepIn K (.ref f) = true) : Fun K x qual st f (PySem.W.fnOf x qual (defArgs st) (defBody st) (defScope st) .none kV doc pm an cdv ct) := ⟨⟨oc, od, kV, doc, pm, an, cdv, ct, osl, rfl, l, c⟩, k⟩
end
theorem small1000 {n : Nat} (h : n ≤ 1000) : n < sizeLine := Nat.lt_of_le_of_lt h (by decide)

section
variable {X : Cx}
theorem pv (i : Nat) {x : Str} {pos : Pos} (hN : X.N[i]? = some x := by rfl) (hv : Vis X.env.scope x := by first | exact Or.inl rfl | exact Or.inr (Or.inl rfl) | exact Or.inr (Or.inr rfl)) (hd : (x == ("__debug__" : Str)) = false := by decide)
    (hcd : (x == ("__classdict__" : Str)) = false := by decide) : PE X (.Name x pos) (tVar i) := pe_var hN hv hd hcd
end

theorem iteF {A B : Prop} (h : B) : if false = true then A else B := by
  rw [if_neg Bool.false_ne_true]
  exact h
theorem iteT {A B : Prop} (h : A) : if true = true then A else B := by
  rw [if_pos rfl]
  exact h
theorem iteNS {c A B : Prop} [Decidable c] (hc : c) (h : B) : if (!decide c) = true then A else B := by
  rw [decide_eq_true hc]
  exact iteF h

/-- all that was tracked is as it was -/
def Same (H H' : Hp) : Prop := ∀ b o, H b = some o → H' b = some o
theorem Same.refl (H : Hp) : Same H H := fun _ _ h => h
theorem Same.trans {H H1 H2 : Hp} (a : Same H H1) (b : Same H1 H2) : Same H H2 := fun c o h => b c o (a c o h)
theorem Same.free {H H' : Hp} (e : Same H H') {l : Addr} (h : H' l = Option.none) : H l = Option.none := by
  cases q : H l with
  | none => rfl
  | some o =>
    rw [e l o q] at h
    cases h
theorem Same.seq {K : PySem.W.Frag} {H H' : Hp} {a : Addr} {xs : List V} (e : Same H H') (h : SqL K H a xs) : SqL K H' a xs := by
  rcases h with (h | ⟨o, h⟩) | h
  · exact .inl (.inl (e _ _ h))
  · exact .inl (.inr ⟨o, e _ _ h⟩)
  · exact .inr h

end L2

set_option maxHeartbeats 4000000
namespace LX
open PySem PySem.Spec PyProof.Rows L2

def clsOf (names : List (Str × NameKind)) (env : Env) (cs : List (Str × Addr)) : List (Str × Addr) :=
  names.foldl (fun cs x => if (x.2 == NameKind.free) = true then (match env.cells.lookup x.1 with | some c => (x.1, c) :: cs | none => cs) else cs) cs

theorem forIn_fold {α β : Type} {f : α → β → Sem (ForInStep β)} {g : β → α → β} : ∀ {l : List α} (b : β), (∀ x ∈ l, ∀ c, f x c = pure (.yield (g c x))) → forIn l b f = pure (l.foldl g b)
  | [], b, _ => rfl
  | x :: l, b, h => by
    rw [List.forIn_cons, h x List.mem_cons_self, pure_bind]
    exact forIn_fold (g b x) fun y hy => h y (List.mem_cons_of_mem _ hy)

theorem closure_eq {scope : Scope} {env : Env} (h : ∀ x ∈ scope.names, x.2 = .free → ∃ c, env.cells.lookup x.1 = some c) : closureFor scope env = pure (clsOf scope.names env []) := by
  simp only [closureFor]
  rw [forIn_fold (g := fun cs x => if (x.2 == NameKind.free) = true then (match env.cells.lookup x.1 with | some c => (x.1, c) :: cs | none => cs) else cs) [] (fun x hx c => by
    obtain ⟨n, k⟩ := x
    by_cases e : (k == NameKind.free) = true
    · have ek : k = .free := by simpa using e
      obtain ⟨a, ha⟩ := h (n, k) hx ek
      have ha' : env.cells.lookup n = some a := ha
      simp only [e, if_true, cellOf, ha', pure_bind]
    · simp only [e, if_false, Bool.false_eq_true])]
  first | rfl | (rw [pure_bind]; rfl)

theorem cls_mem {env : Env} : ∀ (names : List (Str × NameKind)) (cs : List (Str × Addr)), (∀ p ∈ cs, env.cells.lookup p.1 = some p.2) → ∀ p ∈ clsOf names env cs, env.cells.lookup p.1 = some p.2
  | [], _, h => h
  | (n, k) :: r, cs, h => by
    show ∀ p ∈ clsOf r env (if (k == NameKind.free) = true then (match env.cells.lookup n with | some c => (n, c) :: cs | none => cs) else cs), _
    refine cls_mem r _ ?_
    split
    · cases e : env.cells.lookup n with
      | none => exact h
      | some c =>
        intro p hp
        rcases List.mem_cons.mp hp with rfl | hp
        · exact e
        · exact h p hp
    · exact h
theorem cls_keep {env : Env} : ∀ (names : List (Str × NameKind)) (cs : List (Str × Addr)) (p : Str × Addr), p ∈ cs → p ∈ clsOf names env cs
  | [], _, _, h => h
  | (n, k) :: r, cs, p, h => by
    show p ∈ clsOf r env (if (k == NameKind.free) = true then (match env.cells.lookup n with | some c => (n, c) :: cs | none => cs) else cs)
    refine cls_keep r _ p ?_
    split
    · cases e : env.cells.lookup n with
      | none => exact h
      | some c => exact List.mem_cons_of_mem _ h
    · exact h
theorem cls_has {env : Env} {y : Str} {c : Addr} (hc : env.cells.lookup y = some c) : ∀ (names : List (Str × NameKind)) (cs : List (Str × Addr)), (y, NameKind.free) ∈ names → (y, c) ∈ clsOf names env cs
  | [], _, h => by cases h
  | (n, k) :: r, cs, h => by
    show (y, c) ∈ clsOf r env (if (k == NameKind.free) = true then (match env.cells.lookup n with | some c => (n, c) :: cs | none => cs) else cs)
    rcases List.mem_cons.mp h with e | h
    · cases e
      refine cls_keep r _ _ ?_
      rw [if_pos (by rfl), hc]
      exact List.mem_cons_self
    · exact cls_has hc r _ h
theorem lookup_of_mem {l : List (Str × Addr)} {y : Str} {c : Addr} : (y, c) ∈ l → ∃ c', l.lookup y = some c' := by
  induction l with
  | nil => intro h; cases h
  | cons p r ih =>
    intro h
    obtain ⟨n, d⟩ := p
    rw [List.lookup_cons]
    by_cases e : (y == n) = true
    · rw [e]; exact ⟨d, rfl⟩
    · have e' : (y == n) = false := by simpa using e
      rw [e']
      rcases List.mem_cons.mp h with q | q
      · cases q
        rw [beq_self_eq_true] at e'
        cases e'
      · exact ih q
theorem cls_lookup {env : Env} {names : List (Str × NameKind)} {y : Str} {c : Addr} (h : (clsOf names env []).lookup y = some c) : env.cells.lookup y = some c :=
  cls_mem names [] (fun _ z => by cases z) (y, c) (PySem.mem_of_lookup h)
theorem cls_found {env : Env} {names : List (Str × NameKind)} {y : Str} {c : Addr} (hc : env.cells.lookup y = some c) (hy : (y, NameKind.free) ∈ names) : (clsOf names env []).lookup y = some c := by
  obtain ⟨c', e⟩ := lookup_of_mem (cls_has hc names [] hy)
  have := cls_lookup e
  rw [hc] at this
  rw [e, this]

theorem relabel_free {scope : Scope} {env : Env} {y : Str} (hcell : ∀ z ∈ scope.names, z.2 ≠ .cell) (h : (relabel scope env).names.lookup y = some .cell ∨ (relabel scope env).names.lookup y = some .free) : (y, NameKind.free) ∈ scope.names := by
  have key : ∀ k : NameKind, (k = .cell ∨ k = .free) → (relabel scope env).names.lookup y = some k → (y, NameKind.free) ∈ scope.names := by
    intro k hk e
    have m := PySem.mem_of_lookup e
    unfold relabel at m
    obtain ⟨⟨n, k'⟩, hm, q⟩ := List.mem_map.mp m
    dsimp only at q
    by_cases c : (k' == NameKind.free && env.scope.kind == .function && env.kindOf n == some .cell) = true
    · have hf : k' = .free := by
        rw [Bool.and_eq_true, Bool.and_eq_true] at c
        simpa using c.1.1
      rw [if_pos c] at q
      cases q
      subst hf
      exact hm
    · rw [if_neg c] at q
      cases q
      rcases hk with rfl | rfl
      · exact absurd rfl (hcell _ hm)
      · exact hm
  rcases h with h | h
  · exact key _ (.inl rfl) h
  · exact key _ (.inr rfl) h

/-- a captured name is a cell of the block -/
theorem relabel_cap {env : Env} (hk : env.scope.kind = .function) : ∀ {names : List (Str × NameKind)} {y : Str}, names.lookup y = some .free → env.kindOf y = some .cell →
    (names.map fun (n, k) => if (k == NameKind.free && env.scope.kind == .function && env.kindOf n == some .cell) then (n, NameKind.cell) else (n, k)).lookup y = some .cell
  | [], _, h, _ => by simp at h
  | (n, k) :: r, y, h, hy => by
    have ih := @relabel_cap env hk r y
    show List.lookup y ((if (k == NameKind.free && env.scope.kind == .function && env.kindOf n == some .cell) = true then (n, NameKind.cell) else (n, k)) :: _) = _
    cases hx : y == n with
    | true =>
      simp only [List.lookup_cons, hx] at h
      cases h
      have e : y = n := by simpa using hx
      subst e
      rw [if_pos (by rw [hk, hy]; rfl)]
      simp [List.lookup_cons]
    | false =>
      simp only [List.lookup_cons, hx] at h
      by_cases hc : (k == NameKind.free && env.scope.kind == .function && env.kindOf n == some .cell) = true
      · rw [if_pos hc]; simp only [List.lookup_cons, hx]; exact ih h hy
      · rw [if_neg hc]; simp only [List.lookup_cons, hx]; exact ih h hy

/-- the context of a comprehension's block; no exception leaves it -/
def cxC (X : Cx) (N' : List Str) (scope : Scope) (cl : List (Str × Addr)) (C : Addr) (s₀ : Shared) (H₀ : Hp) (ex : List Addr) (pn : List (Addr × Obj)) : Cx where
  prog := X.prog
  w := X.w
  K := X.K
  mg := X.mg
  base := X.base
  A := X.A
  N := N'
  s₀ := s₀
  H₀ := H₀
  env := compEnvC scope cl C X.env
  outer := X.stack
  stack := X.stack
  ex := ex
  fn := fun _ => false
  calm := X.calm
  pn := pn
  xe := fun _ _ => False

section
variable {prog : Program} {w : World} {A : Around} {R : Result → Shared → Prop} {s : Shared}
theorem comp_loop {elt target iter : Expr} {scope : Scope} {pos : Pos} {it acc : Value} {env : Env} (I : Nat → Shared → Prop)
    (turn : ∀ n s, I n s → wpAny (model prog w) A (pyNext it) (fun r s₁ => match r with
      | none => R (.ok .next) s₁
      | some v => wpAny (model prog w) A (letOwnedTupleGo target it v) (fun _ s₁' => wpAny (model prog w) A (assign target env v) (fun _ s₂ => wpAny (model prog w) A (eval elt env) (fun x s₃ =>
          wpAny (model prog w) A (call (.builtin "list.append") [acc, x]) (fun _ s₄ => ∃ m, m < n ∧ I m s₄) (fun _ _ => False) s₃) (fun _ _ => False) s₂) (fun _ _ => False) s₁') (fun _ _ => False) s₁) (fun _ _ => False) s)
    (n : Nat) (h : I n s) : codeAny (model prog w) A (.compLoop (.ListComp elt [⟨target, iter, [], 0⟩] scope pos) 0 it acc env) R s := by
  refine codeAny_loop rfl I (fun n s hI => ?_) n h
  show wpAny _ _ ((compTurn (.ListComp elt [⟨target, iter, [], 0⟩] scope pos) 0 it acc env).onRaise (fun x => do noteFrame x env; theTreesLotGoes x)) _ _ s
  refine wpAny_noted ?_
  rw [compTurn_list1]
  refine wpAny_bind (wpAny_standAt (wpAny_bind (wpAny_mono (turn n s hI) (fun r s₁ h₁ => ?_) fun _ _ h' => h'.elim)))
  cases r with
  | none => exact wpAny_pure h₁
  | some v =>
    exact wpAny_bind (wpAny_mono h₁ (fun _ s₁' h₁' => wpAny_bind (wpAny_mono h₁' (fun _ s₂ h₂ => wpAny_bind (wpAny_bind (wpAny_mono h₂ (fun x s₃ h₃ => wpAny_bind (wpAny_mono h₃
      (fun _ s₄ h₄ => wpAny_pure (wpAny_pure ⟨rfl, h₄⟩)) fun _ _ h' => h'.elim)) fun _ _ h' => h'.elim))) fun _ _ h' => h'.elim)) fun _ _ h' => h'.elim)
end

/-- what the block asks of the comprehension's own scope (fsc, N: the def's own scope and names) -/
structure CompSc (fsc : Scope) (N xs ys : List Str) (sel : List Nat) (scope : Scope) : Prop where
  fkind : fsc.kind = .function
  kind : scope.kind = .function
  nocell : ∀ z ∈ scope.names, z.2 ≠ .cell
  names : ∀ z ∈ scope.names, z.2 = .local → scope.names.lookup z.1 = some .local
  free : ∀ z ∈ scope.names, z.2 = .free → fsc.names.lookup z.1 = some .cell
  cap : ∀ y ∈ ys, scope.names.lookup y = some .free
  pick : ys.map some = sel.map fun j => N[j]?

def capOf (k : Nat) (sel : List Nat) (σ : L2.St) : L2.St := List.replicate k none ++ sel.map fun j => (σ[j]?).join

section
variable {X : Cx} {fsc : Scope} {N xs ys : List Str} {sel : List Nat} {scope : Scope} {pins : List (Addr × Obj)} {σ : L2.St} {H : Hp} {s : Shared}

theorem comp_inv {fp : List Addr} {h₁ : Heap} {C : Addr} {t' : Nat} {m : Str → Option Value} (S : CompSc fsc N xs ys sel scope) (eS : X.env.scope = fsc) (eN : X.N = N) (I : Inv X pins σ H s) (hf : ∀ b ∈ fp, FpOk X pins H b)
    (hl : ∀ b ∈ fp, ∃ o, s.heap.get? b = some o) (old : ∀ b o, s.heap.get? b = some o → h₁.get? b = some o) (hC : s.heap.objs.size ≤ C) (hn : h₁.Ns C m) :
    Inv (cxC X (xs ++ ys) scope (clsOf scope.names X.env []) C s H fp (X.pn ++ pins)) [] (capOf xs.length sel σ) H { s with heap := h₁, toks := t' } := by
  subst eS eN
  have fresh : H C = none := I.hok.fresh hC
  have neC : ∀ {b : Addr} {o : Obj}, s.heap.get? b = some o → b ≠ C := fun e => Nat.ne_of_lt (Nat.lt_of_lt_of_le (Heap.lt_size e) hC)
  have stkne : ∀ b, b ≠ X.env.locals → b ∉ X.fs → b ∉ frs X.stack := fun b h1 h2 z => (List.mem_cons.mp (I.stkSub b z)).elim h1 h2
  have cl_ok : ∀ y c, (clsOf scope.names X.env []).lookup y = some c → X.env.cells.lookup y = some c := fun y c e => cls_lookup e
  refine ⟨⟨I.ok.mod, S.kind, I.ok.glob, I.ok.blt, hC, fun y z c e1 e2 => I.ok.inj y z c (cl_ok y c e1) (cl_ok z c e2), fun y hy => ?_, fun y c hfn _ => ?_, I.ok.hd, I.ok.frames, .inl rfl, fun b hb => ?_, I.bs, Nat.le_trans I.ok.bsz I.sz, fun b o e hb => ?_, fun b hb => ?_, I.stack, I.stkFree⟩,
    rfl, I.bare, Un.kept old, ⟨m, hn, fun i y v h1 h2 h3 => ?_⟩, fun y c e => ?_, fresh, fun y c e => ?_, fun p hp => ?_, I.hok.kept old, ?_⟩
  · have hy' := relabel_free S.nocell hy
    obtain ⟨c, hc⟩ := I.ok.has y (.inl (S.free _ hy' rfl))
    exact ⟨c, cls_found hc hy'⟩
  · exact absurd (show false = true from hfn) Bool.false_ne_true
  · obtain ⟨f0, f1, f2, f3, f4, f5⟩ := hf b hb
    obtain ⟨o, ho⟩ := hl b hb
    exact ⟨neC ho, fun y c e => f4 y c (cl_ok y c e)⟩
  · obtain ⟨f0, f1, f2, f3, f4, f5⟩ := hf b hb
    rcases f3 with f3 | f3
    · exact I.ok.noex b o e f3
    · have h1 := Heap.lt_size e
      have h2 := I.ok.bsz
      exact absurd (Nat.lt_of_lt_of_le h1 (Nat.le_trans h2 f3)) (Nat.lt_irrefl _)
  · obtain ⟨f0, f1, f2, f3, f4, f5⟩ := hf b hb
    exact stkne b f1 f2
  · -- a captured name
    have h1' : (xs ++ ys)[i]? = some y := h1
    have h2' : (List.replicate xs.length none ++ sel.map fun j => (σ[j]?).join)[i]? = some (some v) := h2
    by_cases hi : i < xs.length
    · rw [List.getElem?_append_left (by rw [List.length_replicate]; exact hi), List.getElem?_replicate, if_pos hi] at h2'
      cases h2'
    · have hi' : xs.length ≤ i := Nat.le_of_not_lt hi
      rw [List.getElem?_append_right hi'] at h1'
      rw [List.getElem?_append_right (by rw [List.length_replicate]; exact hi'), List.length_replicate, List.getElem?_map] at h2'
      cases ek : sel[i - xs.length]? with
      | none => rw [ek] at h2'; cases h2'
      | some k =>
        rw [ek] at h2'
        have hj : (σ[k]?).join = some v := Option.some.inj h2'
        have hσ : σ[k]? = some (some v) := by
          cases e : σ[k]? with
          | none => rw [e] at hj; cases hj
          | some o =>
            rw [e] at hj
            have : o = some v := hj
            rw [this]
        have hN : X.N[k]? = some y := by
          have e : (ys.map some)[i - xs.length]? = (sel.map fun j => X.N[j]?)[i - xs.length]? := by rw [S.pick]
          rw [List.getElem?_map, List.getElem?_map, h1', ek] at e
          exact (Option.some.inj e).symm
        have hcap := S.cap y (List.mem_of_getElem? h1')
        have hcell : X.env.scope.names.lookup y = some .cell := S.free _ (PySem.mem_of_lookup hcap) rfl
        obtain ⟨m', hn', hl'⟩ := I.loc
        obtain ⟨u, r, l⟩ := hl' k y v hN hσ (.inr (.inl hcell))
        refine ⟨u, r, .inr ⟨.inl (relabel_cap S.fkind hcap hcell), ?_⟩⟩
        rcases l with ⟨hk, _⟩ | ⟨hk, c, e, z⟩
        · have hk' : X.env.scope.names.lookup y = some .local := hk
          rw [hcell] at hk'
          cases hk'
        · obtain ⟨o, ho, hd⟩ := z
          exact ⟨c, cls_found e (PySem.mem_of_lookup hcap), o, old _ _ ho, hd⟩
  · obtain ⟨v, o, ho, hd⟩ := I.cell y c (cl_ok y c e)
    exact ⟨v, o, old _ _ ho, hd⟩
  · exact I.freeC y c (cl_ok y c e)
  · have hp' : p ∈ X.pn ++ pins := by
      rcases List.mem_append.mp hp with z | z
      · exact z
      · cases z
    obtain ⟨e, n, ne, nf, d⟩ := I.pin p hp'
    exact ⟨old _ _ e, n, neC e, stkne _ ne nf, d⟩
  · show (capOf xs.length sel σ).length = (xs ++ ys).length
    have e := congrArg List.length S.pick
    rw [List.length_map, List.length_map] at e
    unfold capOf
    rw [List.length_append, List.length_append, List.length_replicate, List.length_map, e]

/-- the reading of a comprehension with one clause and no test -/
def compG (k : Nat) (sel : List Nat) (g : TG) (te : TE) (σ : L2.St) (Q : VK) (J : It) (H1 : Hp) : Prop := ∃ W : Nat → Nat → List V → L2.St → Hp → Prop, (∃ m, W 0 m [] (capOf k sel σ) H1) ∧
  ∀ i m ys σ H, W i m ys σ H → (J.stop i H ∧ ∀ p, H p = none → Q (.ref p) (upd H p (.lst ys))) ∨
    (J.go i H ∧ ys.length < sizeLine ∧ ∀ v H', J.yld i H v H' → g v σ H' fun σ2 H2 => te σ2 H2 fun y H3 => ∃ m', m' < m ∧ W (i + 1) m' (ys ++ [y]) σ2 H3)
def tComp (k : Nat) (sel : List Nat) (wi : TI) (g : TG) (te : TE) : TE := fun σ H Q => wi σ H (compG k sel g te σ Q)

theorem comp_core {elt iter tg : Expr} {pos : Pos} {te : TE} {g : TG} {it : Addr} {fp : List Addr} {tn : Nat → Heap → Prop} {J : It} {E : Value → Shared → Prop} {Fin : List V → Hp → Prop} {W : Nat → Nat → List V → L2.St → Hp → Prop}
    {RR : Value → Addr → Result → Shared → Prop} (S : CompSc fsc N xs ys sel scope) (eS : X.env.scope = fsc) (eN : X.N = N) (hc : X.calm = true)
    (hg : ∀ cl C s₀ H₀ ex pn, PG (cxC X (xs ++ ys) scope cl C s₀ H₀ ex pn) tg g) (he : ∀ cl C s₀ H₀ ex pn, PE (cxC X (xs ++ ys) scope cl C s₀ H₀ ex pn) elt te)
    (I : Inv X pins σ H s) (T : Turn X.prog X.w X.K tg J fp it tn) (st : tn 0 s.heap) (hf : ∀ b ∈ fp, FpOk X pins H b) (w0 : ∃ m, W 0 m [] (capOf xs.length sel σ) H)
    (turn : ∀ i m ys σ H, W i m ys σ H → (J.stop i H ∧ Fin ys H) ∨ (J.go i H ∧ ys.length < sizeLine ∧ ∀ v H', J.yld i H v H' → g v σ H' fun σ2 H2 => te σ2 H2 fun y H3 => ∃ m', m' < m ∧ W (i + 1) m' (ys ++ [y]) σ2 H3))
    (hRR : ∀ D C s' ys H' m', Fin ys H' → H' D = none → Inv X pins σ (upd H' D (.lst ys)) s' → s'.heap.Ns C m' → FpOk X pins (upd H' D (.lst ys)) C → RR (.ref D) C (.ok .next) s') :
    wpAny (model X.prog X.w) X.A (newList []) (fun acc s₃ => wpAny (model X.prog X.w) X.A (newFunctionEnv scope X.env.globals (clsOf scope.names X.env []) [] X.env.qual none .none (some X.env)) (fun cenv s₄ =>
      codeAny (model X.prog X.w) X.A (.compStart (.ListComp elt [⟨tg, iter, [], 0⟩] scope pos) 0 (.ref it) acc { cenv with scope := relabel scope X.env }) (RR acc cenv.locals) s₄) E s₃) E s := by
  refine wpAny_newObj_type (wpAny_newFunctionEnv S.nocell (by intro y hy; simp at hy) (fun h₁ hns₁ hsb₁ => ?_) S.kind)
  dsimp only at hns₁ hsb₁ ⊢
  generalize hH2 : s.heap.push { cls := .type "list", dict := none, data := .seq ([] : List Value).toArray } = H2 at hns₁ hsb₁ ⊢
  have hC : H2.objs.size = s.heap.objs.size + 1 := by rw [← hH2, Heap.size_push]
  have hDC : s.heap.objs.size ≠ H2.objs.size := by rw [hC]; exact Nat.ne_of_lt (Nat.lt_succ_self _)
  have hCle : s.heap.objs.size ≤ H2.objs.size := by rw [hC]; exact Nat.le_succ _
  have below : ∀ b, b < s.heap.objs.size → b ≠ H2.objs.size ∧ b ≠ s.heap.objs.size := fun b hb => ⟨by rw [hC]; exact Nat.ne_of_lt (Nat.lt_succ_of_lt hb), Nat.ne_of_lt hb⟩
  have old : ∀ b o, s.heap.get? b = some o → h₁.get? b = some o := fun b o e => hsb₁.extBut b o (below b (Heap.lt_size e)).1 (Heap.get?_push_of_some _ (hH2 ▸ Heap.get?_push_of_some _ e))
  have hacc : h₁.get? s.heap.objs.size = some { cls := .type "list", data := .seq ([] : List Value).toArray } := hsb₁.extBut _ _ hDC (Heap.get?_push_of_some _ (hH2 ▸ Heap.get?_push_size _ rfl))
  have hlive : ∀ b ∈ fp, ∃ o, s.heap.get? b = some o := fun b hb => by
    obtain ⟨o, ho, _⟩ := T.obj 0 _ st b hb
    exact ⟨o, ho⟩
  have hDf : ∀ b ∈ fp, b ≠ s.heap.objs.size := fun b hb z => by
    obtain ⟨o, ho⟩ := hlive b hb
    exact absurd (Heap.lt_size ho) (by rw [z]; exact Nat.lt_irrefl _)
  generalize hDD : s.heap.objs.size = D at hDC hCle below hacc hDf ⊢
  generalize hCC : H2.objs.size = C at hns₁ hsb₁ hDC hCle below ⊢
  have hCs : s.heap.objs.size ≤ C := by rw [hDD]; exact hCle
  have IC := comp_inv (t' := s.toks + ([] : List (Str × Value)).length) S eS eN I hf hlive old hCs hns₁
  -- what is true of the accumulator and of the iterator's records
  have fpD : ∀ {H' : Hp}, H' D = none → FpOk (cxC X (xs ++ ys) scope (clsOf scope.names X.env []) C s H fp (X.pn ++ pins)) [] H' D := fun {H'} hn => by
    refine ⟨hn, hDC, ?_, .inr (show s.heap.objs.size ≤ D from Nat.le_of_eq hDD), fun y c e z => ?_, fun p hp z => ?_⟩
    · intro z
      exact (List.mem_cons.mp (I.stkSub D z)).elim (fun q => absurd I.lt (by rw [← q, hDD]; exact Nat.lt_irrefl _)) (fun q => I.nofs (Nat.le_of_eq hDD) q)
    · obtain ⟨v, q⟩ := I.cell y c (cls_lookup e)
      exact absurd q.lt (by rw [z, hDD]; exact Nat.lt_irrefl _)
    · have hp' : p ∈ X.pn ++ pins := by
        rcases List.mem_append.mp hp with q | q
        · exact q
        · cases q
      exact absurd (Heap.lt_size (I.pin p hp').1) (by rw [z, hDD]; exact Nat.lt_irrefl _)
  have fpF : ∀ {H' : Hp} {pl : List (Addr × Obj)}, (∀ p ∈ pl, p.1 = D) → (∀ b ∈ fp, H' b = none) → ∀ b ∈ fp, FpOk (cxC X (xs ++ ys) scope (clsOf scope.names X.env []) C s H fp (X.pn ++ pins)) pl H' b := fun {H' pl} hpl hn b hb => by
    obtain ⟨f0, f1, f2, f3, f4, f5⟩ := hf b hb
    obtain ⟨o, ho⟩ := hlive b hb
    refine ⟨hn b hb, Nat.ne_of_lt (Nat.lt_of_lt_of_le (Heap.lt_size ho) hCs), fun z => (List.mem_cons.mp (I.stkSub b z)).elim f1 f2, .inl hb, fun y c e => f4 y c (cls_lookup e), fun p hp => ?_⟩
    rcases List.mem_append.mp hp with q | q
    · exact f5 p q
    · rw [hpl p q]; exact Ne.symm (hDf b hb)
  have one : ∀ {ob : Obj}, ∀ p ∈ [(D, ob)], p.1 = D := fun {ob} p hp => by
    rw [List.mem_singleton.mp hp]
  have none0 : ∀ p ∈ ([] : List (Addr × Obj)), p.1 = D := fun p hp => by cases hp
  have loop : ∀ s₃ : Shared, s₃ = { s with heap := h₁, toks := s.toks + ([] : List (Str × Value)).length } →
      codeAny (model X.prog X.w) X.A (.compLoop (.ListComp elt [⟨tg, iter, [], 0⟩] scope pos) 0 (.ref it) (.ref D) (compEnvC scope (clsOf scope.names X.env []) C X.env)) (RR (.ref D) C) s₃ := by
    rintro s₃ rfl
    obtain ⟨m0, w0⟩ := w0
    refine comp_loop (fun n s' => ∃ i σ' H' zs its cnt, Inv (cxC X (xs ++ ys) scope (clsOf scope.names X.env []) C s H fp (X.pn ++ pins)) [] σ' H' s' ∧ tn i s'.heap ∧ (∀ b ∈ fp, H' b = none) ∧
      s'.heap.get? D = some { cls := .type "list", data := .seq (its : List Value).toArray cnt } ∧ Vals zs its ∧ H' D = none ∧ zs.length ≤ sizeLine ∧ W i n zs σ' H') ?_ m0
      ⟨0, _, H, [], [], 0, IC, T.keep _ _ _ st fun b hb o e => old b o e, fun b hb => (hf b hb).1, hacc, .nil, I.hok.fresh (Nat.le_of_eq hDD), Nat.zero_le _, w0⟩
    rintro n s' ⟨i, σ', H', zs, its, cnt, I', st', fr', hD', vv, nD', hz', w'⟩
    have Ip : Inv (cxC X (xs ++ ys) scope (clsOf scope.names X.env []) C s H fp (X.pn ++ pins)) [(D, { cls := .type "list", data := .seq its.toArray cnt })] σ' H' s' := I'.pins_of fun p hp => by
      rw [List.mem_singleton.mp hp]
      obtain ⟨f0, f1, f2, _⟩ := fpD nD'
      exact ⟨hD', nD', f1, f2, fun v z => by cases z⟩
    rcases turn i n zs σ' H' w' with ⟨stop, fin⟩ | ⟨go, hlt, step⟩
    · refine thn (T.done (cxC X (xs ++ ys) scope (clsOf scope.names X.env []) C s H fp (X.pn ++ pins)) rfl rfl rfl hc i _ s' σ' H' _ Ip (fpF one fr') st' stop) fun r s4 ⟨hr, I4⟩ => ?_
      subst hr
      dsimp only
      have pD4 := I4.pin (D, { cls := .type "list", data := .seq its.toArray cnt }) (List.mem_append_right _ List.mem_cons_self)
      have nC : H' C = none := I4.free
      obtain ⟨mC, hmC, _⟩ := I4.loc
      have hD4 : s4.heap.get? D = some { cls := .type "list", data := .seq its.toArray cnt } := pD4.1
      have uN : Un (frs X.stack) fp H (upd H' D (.lst zs)) s.heap s4.heap := by
        have u : Un (frs X.stack) fp H H' s.heap s4.heap := I4.base
        refine ⟨u.keep, u.slot, fun b o e n hx => ?_, u.there, fun b q e => ?_, fun b o q e => ?_, fun b q e => ?_⟩
        · rw [upd_ne (by rw [← hDD]; exact Nat.ne_of_lt (Heap.lt_size e))]
          exact u.free b o e n hx
        · have e' := u.tups b q e
          rw [upd_ne (ne_of_none e' nD')]
          exact e'
        · have e' := u.frzs b o q e
          rw [upd_ne (ne_of_none e' nD')]
          exact e'
        · obtain ⟨more, e'⟩ := u.tbls b q e
          exact ⟨more, by rw [upd_ne (ne_of_none e' nD')]; exact e'⟩
      have hokN : HOk X.prog X.w (upd H' D (.lst zs)) s4.heap := fun b u e => by
        by_cases hb : b = D
        · subst hb
          rw [upd_same] at e
          cases e
          exact ⟨hz', its, cnt, vv, hD4⟩
        · rw [upd_ne hb] at e
          exact (I4.hok b u e).stay (fun _ _ _ q => q) (fun c q => by rw [upd_ne (ne_of_none q nD')]; exact q) fun c _ q => by rw [upd_ne (ne_of_none q nD')]; exact q
      have IX : Inv X pins σ (upd H' D (.lst zs)) s4 := I.call' I4.os uN hokN I4.bare fun b hb => let ⟨_, f1, _, f3, f4, f5⟩ := hf b hb; ⟨f3, f1, f4, f5⟩
      refine hRR D C s4 zs H' mC fin nD' IX hmC (I.fpOk hCs ?_)
      rw [upd_ne (Ne.symm hDC)]
      exact nC
    · refine thn (T.item (cxC X (xs ++ ys) scope (clsOf scope.names X.env []) C s H fp (X.pn ++ pins)) rfl rfl rfl hc i _ s' σ' H' _ Ip (fpF one fr') st' go) fun r s4 ⟨u, hr, h4⟩ => ?_
      subst hr
      dsimp only
      refine thn h4 fun _ s5 ⟨x, H5, I5, r5, y5, st5, fr5⟩ => ?_
      have pD5 := I5.pin (D, { cls := .type "list", data := .seq its.toArray cnt }) (List.mem_append_right _ List.mem_cons_self)
      have nD5 : H5 D = none := pD5.2.1
      have hD5 : s5.heap.get? D = some { cls := .type "list", data := .seq its.toArray cnt } := pD5.1
      have I50 : Inv (cxC X (xs ++ ys) scope (clsOf scope.names X.env []) C s H fp (X.pn ++ pins)) [] σ' H5 s5 := I5.pins_of fun p hp => by cases hp
      have I5' := I50.pinned (fp := D :: fp) (fun b hb => by
        rcases List.mem_cons.mp hb with z | z
        · rw [z]; exact fpD nD5
        · exact fpF none0 fr5 b z) (fun b hb => by
        rcases List.mem_cons.mp hb with z | z
        · rw [z]; exact ⟨_, hD5, fun v z => by cases z⟩
        · exact T.obj _ _ st5 b z)
      refine thn (hg _ _ _ _ _ _ _ s5 σ' H5 x u _ I5' r5 (step x H5 y5)) fun _ s6 ⟨σ6, H6, I6, q6⟩ => ?_
      refine thn (he _ _ _ _ _ _ _ s6 σ6 H6 _ I6 q6) fun yv s7 ⟨y, H7, I7, r7, m', hm, w7⟩ => ?_
      have pin7 : ∀ {b : Addr} {o : Obj}, b ∈ D :: fp → s5.heap.get? b = some o → s7.heap.get? b = some o ∧ H7 b = none := fun {b o} hb e =>
        let q := I7.pin (b, o) (List.mem_append_right _ (List.mem_append_right _ (mem_pinsAt hb e))); ⟨q.1, q.2.1⟩
      obtain ⟨hD7, nD7⟩ := pin7 List.mem_cons_self hD5
      have hlv := vv.length
      refine call_meets F.slot_list_append ⟨_, hD7, rfl⟩ F.entry_list_append (F.args_list_append_2 _ _) (PySem.list_append D its.toArray cnt yv (by rw [List.size_toArray]; omega)) ⟨hD7, ?_⟩
      have q := PySem.IsL.update hD7 (fun a => a.push yv)
      have hp : its.toArray.push yv = (its ++ [yv]).toArray := by simp
      rw [hp] at q
      refine ⟨m', hm, i + 1, σ6, H7, zs ++ [y], its ++ [yv], _, ?_, ?_, fun b hb => ?_, q, vv.append (.cons r7 .nil), nD7, ?_, w7⟩
      · obtain ⟨f0, f1, f2, f3, f4, f5⟩ := fpD nD7
        exact I7.unpinned.turned (it := D) (fun b o hb e => (Heap.get?_update_other _ _ (Ne.symm hb)).trans e) f0 f1 f3 f4 f5
      · refine T.keep _ _ _ st5 fun b hb o e => ?_
        exact (Heap.get?_update_other _ _ (Ne.symm (hDf b hb))).trans (pin7 (List.mem_cons_of_mem _ hb) e).1
      · obtain ⟨o, e, _⟩ := T.obj _ _ st5 b hb
        exact (pin7 (List.mem_cons_of_mem _ hb) e).2
      · rw [List.length_append, List.length_singleton]
        omega
  exact codeAny_compStart_list (loop _ rfl) (T.self X.A 0 _ _ _ (T.keep _ _ _ st fun b hb o e => old b o e) (loop _ rfl))

/-- y = [..] -/
theorem ps_comp {i : Nat} {y : Str} {elt iter tg : Expr} {pos py spos : Pos} {te : TE} {g : TG} {wi : TI} (S : CompSc fsc N xs ys sel scope) (eS : X.env.scope = fsc) (eN : X.N = N) (hc : X.calm = true) (hi : PI X tg iter wi)
    (hg : ∀ cl C s₀ H₀ ex pn, PG (cxC X (xs ++ ys) scope cl C s₀ H₀ ex pn) tg g) (he : ∀ cl C s₀ H₀ ex pn, PE (cxC X (xs ++ ys) scope cl C s₀ H₀ ex pn) elt te)
    (hN : X.N.Nodup) (hiN : X.N[i]? = some y) (hy : X.env.scope.names.lookup y = some .local)
    (hsw : swapsWith (.ListComp elt [⟨tg, iter, [], 0⟩] scope pos) (some (.Name y py)) spos.line X.env = pure true)
    (hs : ∀ x, foldedSetIterable iter X.env x = pure x := by intro _; rfl) : PS X (.Assign [.Name y py] (.ListComp elt [⟨tg, iter, [], 0⟩] scope pos) spos) (tAsg (tComp xs.length sel wi g te) (gName i)) := by
  intro pins s σ H D I h
  rw [exec_Assign_Name_used _ _ _ _ hsw]
  refine wpAny_bind (wpAny_standAt (wpAny_bind ?_))
  have hclos : closureFor scope X.env = pure (clsOf scope.names X.env []) := closure_eq fun z hz hk => I.ok.has z.1 (.inl (by rw [← eS] at S; exact S.free z hz hk))
  show wpAny _ X.A (do let _ ← comprehension (.ListComp elt [⟨tg, iter, [], 0⟩] scope pos) scope X.env _ (newList []) false (eval iter X.env) (some (assign (.Name y py) X.env))) _ _ s
  refine wpAny_bind (wpAny_mono (wpAny_comprehension_free (use := some (assign (.Name y py) X.env)) (Q := fun _ s' => SP X pins D .next s') rfl hs hclos S.kind S.names
    (thn (hi pins s σ H _ I h) fun v s1 h1 => thn h1 fun itv s2 h2 => ?_)) (fun _ s' hq => wpAny_pure (wpAny_pure hq)) fun _ _ e => e)
  obtain ⟨it, fp, tn, J, H2, e, I2, T, st2, f2, W, w0, turn⟩ := h2
  subst e
  refine comp_core (Fin := fun ys H => ∀ p, H p = none → D.nx (σ.set i (some (.ref p))) (upd H p (.lst ys))) (RR := fun acc C => compPost (model X.prog X.w) X.A X.xe (some (assign (.Name y py) X.env)) (fun _ s' => SP X pins D .next s') acc C) S eS eN hc hg he I2 T st2 f2 w0 turn ?_
  intro Da C s' zs H' m' fin nD IX hn hfp
  show wpAny _ X.A (assign (.Name y py) X.env (.ref Da)) _ _ _
  refine wpAny_assign_Name (store_ok2 (v := .ref Da) IX hN hiN (.inl hy) rfl (fun s'' I'' ⟨a, hsa, ha⟩ => ?_) (.inr hy))
  obtain ⟨f0, f1, f2, f3, f4, f5⟩ := hfp
  have aC : C ≠ a := by
    rcases ha with rfl | ha
    · exact f1
    · exact fun z => f4 y a ha z.symm
  refine ⟨m', hn.sameBut hsa aC, fun h' hsb => ?_⟩
  exact ⟨_, _, I''.turned (it := C) (t' := s''.toks) (fun b o hb e => hsb.extBut b o hb e) f0 f1 f3 f4 f5, fin Da nD⟩
end

theorem comp_range {sel : List Nat} {σ : L2.St} {lo : Int} {n : Nat} {te : TE} {Q : VK} {H : Hp} (Pv : Nat → List V → Hp → Prop) (hz : n ≤ sizeLine) (h0 : Pv 0 [] H) (hlen : ∀ i ys H, Pv i ys H → ys.length = i)
    (hs : ∀ i ys H (K : VK), i < n → Pv i ys H → (∀ y H2, Pv (i + 1) (ys ++ [y]) H2 → K y H2) → te (some (V.int (lo + i)) :: sel.map fun j => (σ[j]?).join) H K) (hd : ∀ ys H, Pv n ys H → ∀ p, H p = none → Q (.ref p) (upd H p (.lst ys))) :
    compG 1 sel (gName 0) te σ Q (Itr lo n) H := by
  refine ⟨fun i m ys σ' H => m = n - i ∧ i ≤ n ∧ (∃ v0, σ' = v0 :: sel.map fun j => (σ[j]?).join) ∧ Pv i ys H, ⟨n, by simp, Nat.zero_le _, ⟨_, rfl⟩, h0⟩, ?_⟩
  rintro i m ys σ' H ⟨rfl, hi, ⟨v0, rfl⟩, p⟩
  by_cases hlt : i < n
  · refine .inr ⟨hlt, by rw [hlen i ys H p]; omega, fun v H' y => ?_⟩
    obtain ⟨e, y⟩ := y
    subst e y
    exact hs i ys _ _ hlt p fun y H3 q => ⟨n - (i + 1), by omega, rfl, hlt, ⟨_, rfl⟩, q⟩
  · have e : i = n := by omega
    subst e
    exact .inl ⟨Nat.le_refl _, hd ys H p⟩
end LX
namespace LX
open PySem PySem.Spec PyProof.Rows L2

section
variable {X : Cx} {tg : Expr}
end
section
variable {X : Cx}
theorem call_isinst : CallR X (.builtin "isinstance") (fun xs H Q => ∃ x T t b, xs = [x, .ty T] ∧ TyOf X.K H x t ∧ PySem.W.kitOne X.K t (.type T) = some b ∧ Q (.bl b) H) := by
  intro pins s σ H xs us Q I r h
  obtain ⟨x, T, t, b, rfl, ty, e, q⟩ := h
  obtain ⟨u, w', rfl, rx, ry⟩ := vals2 r
  cases ry
  exact isinst_ok I rx ty e fun tk => ⟨.bl b, H, I.tok tk, rfl, q⟩

end
end LX
namespace LX
open PySem PySem.Spec PyProof.Rows L2
open Sem (wp)

structure Ap2 (z TI TO i1 i2 : Addr) (fp1 fp2 : List Addr) : Prop where
  z1 : z ∉ fp1
  z2 : z ∉ fp2
  o1 : TO ∉ fp1
  o2 : TO ∉ fp2
  i12 : i1 ∉ fp2
  i21 : i2 ∉ fp1
  TIz : TI ≠ z
  TIO : TI ≠ TO
  TI1 : TI ≠ i1
  TI2 : TI ≠ i2
  Oz : TO ≠ z
  O1 : TO ≠ i1
  O2 : TO ≠ i2
  y1 : i1 ≠ z
  y2 : i2 ≠ z
structure Ap3 (z TI TO i1 i2 i3 : Addr) (fp1 fp2 fp3 : List Addr) : Prop where
  z1 : z ∉ fp1
  z2 : z ∉ fp2
  z3 : z ∉ fp3
  o1 : TO ∉ fp1
  o2 : TO ∉ fp2
  o3 : TO ∉ fp3
  i12 : i1 ∉ fp2
  i13 : i1 ∉ fp3
  i21 : i2 ∉ fp1
  i23 : i2 ∉ fp3
  i31 : i3 ∉ fp1
  i32 : i3 ∉ fp2
  TIz : TI ≠ z
  TIO : TI ≠ TO
  TI1 : TI ≠ i1
  TI2 : TI ≠ i2
  TI3 : TI ≠ i3
  Oz : TO ≠ z
  O1 : TO ≠ i1
  O2 : TO ≠ i2
  O3 : TO ≠ i3
  y1 : i1 ≠ z
  y2 : i2 ≠ z
  y3 : i3 ≠ z
section
variable {prog : Program} {w : World} {A : Around} {E : Value → Shared → Prop} {s : Shared}
theorem zip2_item {z TI TO i1 i2 : Addr} {fp1 fp2 : List Addr} {n1 n2 k : Nat} {P1 P2 : Nat → Value → Prop} {St1 St2 : Nat → Heap → Prop} {a b : Value} {Q : Value → Shared → Prop}
    (D1 : Draws prog w A i1 fp1 n1 P1 St1) (D2 : Draws prog w A i2 fp2 n2 P2 St2) (ap : Ap2 z TI TO i1 i2 fp1 fp2)
    (hz : IsZip s.heap z TI TO .none) (hTI : IsPair s.heap TI (.ref i1) (.ref i2)) (hTO : IsPair s.heap TO a b) (h1 : St1 k s.heap) (h2 : St2 k s.heap) (k1 : k < n1) (k2 : k < n2)
    (hQ : ∀ x y h' tk, P1 k x → P2 k y → IsZip h' z TI TO (rawInt s.heap.objs.size) → IsPair h' TO x y → St1 (k + 1) h' → St2 (k + 1) h' → IsPair h' s.heap.objs.size x y →
      (∀ c o, c ≠ z → c ≠ TO → c ≠ i1 → c ≠ i2 → s.heap.get? c = some o → h'.get? c = some o) → Q (.ref s.heap.objs.size) { s with heap := h', toks := tk }) :
    wpAny (model prog w) A (Builtin.«zip.__next__» ⟨[.ref z], []⟩) (fun fin s' => ∃ v, fin = .done (.ret v) ∧ Q v s') E s := by
  show wpAny _ _ (field (.ref z) 2 >>= _) _ _ _
  refine wpAny_bind (wpAny_field hz rfl (x := .bool false) rfl ?_)
  show wpAny _ _ (field (.ref z) 3 >>= _) _ _ _
  refine wpAny_bind (wpAny_field hz rfl (x := .ref TI) rfl ?_)
  refine wpAny_bind (wpAny_seqItems hTI rfl ?_)
  show wpAny _ _ (Builtin.SmallTypes.ownedTupleIsFree (.ref z) >>= _) _ _ _
  refine wpAny_bind ?_
  unfold Builtin.SmallTypes.ownedTupleIsFree
  refine wpAny_bind (wpAny_field hz rfl (x := .none) rfl (wpAny_pure ?_))
  simp only [if_true]
  refine wpAny_bind (wpAny_rule ?_)
  refine wpAny_bind (wpAny_field hz rfl (x := .ref TO) rfl ?_)
  refine wpAny_bind (wpAny_setField_rec hz (by simp) fun g1 hz₁ sb1 => ?_)
  replace hz₁ : IsZip g1 z TI TO .ellipsis := hz₁
  refine wpAny_bind ?_
  simp only [List.zipIdx_cons, List.zipIdx_nil, List.forIn_cons, List.forIn_nil]
  refine wpAny_bind (wpAny_bind (wpAny_onRaise ?_))
  show wpAny _ _ (Builtin.SmallTypes.nextOf (.ref i1) >>= _) _ _ _
  have a1 : St1 k g1 := D1.frame _ _ _ h1 fun c hc o e => sb1.extBut c o (fun q => ap.z1 (q ▸ hc)) e
  refine wpAny_bind (D1.item k _ _ _ k1 a1 fun x g2 tk1 hx b1 sb2 => wpAny_pure ?_)
  replace sb2 : Heap.SameBut i1 g1 g2 := sb2
  have o2 : IsPair g2 TO a b := sb2.extBut _ _ ap.O1 (sb1.extBut _ _ ap.Oz hTO)
  refine wpAny_bind (wpAny_seqItems o2 rfl ?_)
  refine wpAny_bind (wpAny_updateSeq_pair o2 fun g3 o3 sb3 => ?_)
  replace o3 : IsPair g3 TO x b := o3
  replace sb3 : Heap.SameBut TO g2 g3 := sb3
  refine wpAny_bind (wpAny_letGo (wpAny_pure ?_))
  refine wpAny_bind (wpAny_bind (wpAny_onRaise ?_))
  show wpAny _ _ (Builtin.SmallTypes.nextOf (.ref i2) >>= _) _ _ _
  have a2 : St2 k g3 := D2.frame _ _ _ h2 fun c hc o e => sb3.extBut c o (fun q => ap.o2 (q ▸ hc)) (sb2.extBut c o (fun q => ap.i12 (q ▸ hc)) (sb1.extBut c o (fun q => ap.z2 (q ▸ hc)) e))
  refine wpAny_bind (D2.item k _ _ _ k2 a2 fun y g4 tk2 hy b2 sb4 => wpAny_pure ?_)
  replace sb4 : Heap.SameBut i2 g3 g4 := sb4
  have o4 : IsPair g4 TO x b := sb4.extBut _ _ ap.O2 o3
  refine wpAny_bind (wpAny_seqItems o4 rfl ?_)
  refine wpAny_bind (wpAny_updateSeq_pair o4 fun g5 o5 sb5 => ?_)
  replace o5 : IsPair g5 TO x y := o5
  replace sb5 : Heap.SameBut TO g4 g5 := sb5
  refine wpAny_bind (wpAny_letGo (wpAny_pure (wpAny_pure ?_)))
  refine wpAny_bind (wpAny_seqItems o5 rfl ?_)
  refine wpAny_bind (wpAny_newTuple ?_)
  have hsz : g5.objs.size = s.heap.objs.size := by rw [sb5.1, sb4.1, sb3.1, sb2.1, sb1.1]
  have z5 : IsZip g5 z TI TO .ellipsis := sb5.extBut _ _ ap.Oz.symm (sb4.extBut _ _ ap.y2.symm (sb3.extBut _ _ ap.Oz.symm (sb2.extBut _ _ ap.y1.symm hz₁)))
  have k5 : ∀ c o, c ≠ z → c ≠ TO → c ≠ i1 → c ≠ i2 → s.heap.get? c = some o → g5.get? c = some o := fun c o c1 c2 c3 c4 e =>
    sb5.extBut _ _ c2 (sb4.extBut _ _ c4 (sb3.extBut _ _ c2 (sb2.extBut _ _ c3 (sb1.extBut _ _ c1 e))))
  have e1 : St1 (k + 1) g5 := D1.frame _ _ _ b1 fun c hc o e => sb5.extBut c o (fun q => ap.o1 (q ▸ hc)) (sb4.extBut c o (fun q => ap.i21 (q ▸ hc)) (sb3.extBut c o (fun q => ap.o1 (q ▸ hc)) e))
  have e2 : St2 (k + 1) g5 := D2.frame _ _ _ b2 fun c hc o e => sb5.extBut c o (fun q => ap.o2 (q ▸ hc)) e
  have zlt : z < g5.objs.size := Heap.lt_size z5
  show wpAny _ _ (Builtin.SmallTypes.ownedTupleHandOut (.ref z) (.ref g5.objs.size) >>= _) _ _ _
  refine wpAny_bind ?_
  unfold Builtin.SmallTypes.ownedTupleHandOut
  have z6 : IsZip (g5.push { cls := .type "tuple", data := .seq #[x, y] }) z TI TO .ellipsis := Heap.get?_push_of_some _ z5
  refine wpAny_bind (wpAny_setField_rec z6 (by simp) fun g7 z7 sb7 => ?_)
  replace z7 : IsZip g7 z TI TO (rawInt g5.objs.size) := z7
  refine wpAny_setField_rec z7 (by simp) fun g8 z8 sb8 => ?_
  replace z8 : IsZip g8 z TI TO (rawInt g5.objs.size) := z8
  have up : ∀ c o, c ≠ z → g5.get? c = some o → g8.get? c = some o := fun c o c1 e => sb8.extBut _ _ c1 (sb7.extBut _ _ c1 (Heap.get?_push_of_some _ e))
  have t8 : IsPair g8 g5.objs.size x y := sb8.extBut _ _ (Nat.ne_of_gt zlt) (sb7.extBut _ _ (Nat.ne_of_gt zlt) (Heap.get?_push_size _ rfl))
  rw [hsz] at z8 t8
  refine wpAny_pure ⟨_, rfl, ?_⟩
  show Q (.ref g5.objs.size) _
  rw [hsz]
  exact hQ x y g8 _ hx hy z8 (up _ _ ap.Oz o5) (D1.frame _ _ _ e1 fun c hc o e => up c o (fun q => ap.z1 (q ▸ hc)) e) (D2.frame _ _ _ e2 fun c hc o e => up c o (fun q => ap.z2 (q ▸ hc)) e) t8
    fun c o c1 c2 c3 c4 e => up c o c1 (k5 c o c1 c2 c3 c4 e)

/-- the first iterator is at its end -/
theorem zip_end {z TI TO i1 : Addr} {its : Array Value} {rest : List Value} {fp1 : List Addr} {n1 : Nat} {P1 : Nat → Value → Prop} {St1 : Nat → Heap → Prop} {Q : Fin → Shared → Prop}
    (D1 : Draws prog w A i1 fp1 n1 P1 St1) (z1 : z ∉ fp1) (y1 : i1 ≠ z) (hits : its.toList = .ref i1 :: rest) (hz : IsZip s.heap z TI TO .none) (hTI : s.heap.get? TI = some { cls := .type "tuple", data := .seq its }) (h1 : St1 n1 s.heap)
    (hE : ∀ h' e, (∀ c o, c ≠ z → c ≠ i1 → s.heap.get? c = some o → h'.get? c = some o) → (∃ o, h'.get? e = some o ∧ o.cls = .type "StopIteration") → E (.ref e) { s with heap := h' }) :
    wpAny (model prog w) A (Builtin.«zip.__next__» ⟨[.ref z], []⟩) Q E s := by
  show wpAny _ _ (field (.ref z) 2 >>= _) _ _ _
  refine wpAny_bind (wpAny_field hz rfl (x := .bool false) rfl ?_)
  show wpAny _ _ (field (.ref z) 3 >>= _) _ _ _
  refine wpAny_bind (wpAny_field hz rfl (x := .ref TI) rfl ?_)
  refine wpAny_bind (wpAny_seqItems hTI rfl ?_)
  have hne : its.isEmpty = false := by
    cases e : its.isEmpty with
    | false => rfl
    | true =>
      have := Array.isEmpty_iff.mp e
      rw [this] at hits
      cases hits
  dsimp only
  rw [hne]
  simp only [Bool.false_eq_true, if_false]
  show wpAny _ _ (Builtin.SmallTypes.ownedTupleIsFree (.ref z) >>= _) _ _ _
  refine wpAny_bind ?_
  unfold Builtin.SmallTypes.ownedTupleIsFree
  refine wpAny_bind (wpAny_field hz rfl (x := .none) rfl (wpAny_pure ?_))
  simp only [if_true]
  refine wpAny_bind (wpAny_rule ?_)
  refine wpAny_bind (wpAny_field hz rfl (x := .ref TO) rfl ?_)
  refine wpAny_bind (wpAny_setField_rec hz (by simp) fun g1 hz₁ sb1 => ?_)
  replace hz₁ : IsZip g1 z TI TO .ellipsis := hz₁
  refine wpAny_bind ?_
  rw [hits]
  simp only [List.zipIdx_cons, List.forIn_cons]
  refine wpAny_bind (wpAny_bind (wpAny_onRaise ?_))
  show wpAny _ _ (Builtin.SmallTypes.nextOf (.ref i1) >>= _) _ _ _
  have a1 : St1 n1 g1 := D1.frame _ _ _ h1 fun c hc o e => sb1.extBut c o (fun q => z1 (q ▸ hc)) e
  refine wpAny_bind (D1.done _ _ _ a1 fun g2 e sb2 he => ?_)
  obtain ⟨oe, hoe, hce⟩ := he
  have hz₂ : IsZip g2 z TI TO .ellipsis := sb2 _ _ y1.symm hz₁
  have hez : e ≠ z := fun x => by subst x; rw [hz₂] at hoe; cases hoe; simp at hce
  refine wpAny_setField_rec hz₂ (by simp) fun g3 _ sb3 => hE g3 e (fun c o c1 c3 x => sb3.extBut _ _ c1 (sb2 _ _ c3 (sb1.extBut _ _ c1 x))) ⟨oe, sb3.extBut _ _ hez hoe, hce⟩
theorem pyNext_zip_end {z TI TO i1 : Addr} {its : Array Value} {rest : List Value} {fp1 : List Addr} {n1 : Nat} {P1 : Nat → Value → Prop} {St1 : Nat → Heap → Prop} {Q : Option Value → Shared → Prop}
    (D1 : Draws prog w A.in1 i1 fp1 n1 P1 St1) (z1 : z ∉ fp1) (y1 : i1 ≠ z) (hits : its.toList = .ref i1 :: rest) (hz : IsZip s.heap z TI TO .none) (hTI : s.heap.get? TI = some { cls := .type "tuple", data := .seq its }) (h1 : St1 n1 s.heap)
    (hQ : ∀ h', (∀ c o, c ≠ z → c ≠ i1 → s.heap.get? c = some o → h'.get? c = some o) → Q none { s with heap := h' }) : wpAny (model prog w) A (pyNext (.ref z)) Q E s := by
  have hT : s.TypeIs (.ref z) "zip" := ⟨_, hz, rfl⟩
  unfold pyNext
  refine wpAny_bind (wpAny_attempt (wpAny_callSpecial?_slot (name := Str.ofString "__next__") hT F.slot_zip_next
    (wpAny_call_entry F.slot_zip_next hT F.entry_zip_next (zip_end D1 z1 y1 hits hz hTI h1 fun h' e hk he => ?_) (F.args_zip_next_1 _))))
  obtain ⟨o, ho, hc⟩ := he
  refine wpAny_bind (wpAny_isInstance (T := "StopIteration") (b := true) ⟨o, ho, hc⟩ isSubtype_stop ?_)
  exact wpAny_pure (hQ _ hk)
theorem pyNext_zip2_item {z TI TO i1 i2 : Addr} {fp1 fp2 : List Addr} {n1 n2 k : Nat} {P1 P2 : Nat → Value → Prop} {St1 St2 : Nat → Heap → Prop} {a b : Value} {Q : Option Value → Shared → Prop}
    (D1 : Draws prog w A.in1 i1 fp1 n1 P1 St1) (D2 : Draws prog w A.in1 i2 fp2 n2 P2 St2) (ap : Ap2 z TI TO i1 i2 fp1 fp2)
    (hz : IsZip s.heap z TI TO .none) (hTI : IsPair s.heap TI (.ref i1) (.ref i2)) (hTO : IsPair s.heap TO a b) (h1 : St1 k s.heap) (h2 : St2 k s.heap) (k1 : k < n1) (k2 : k < n2)
    (hQ : ∀ x y h' tk, P1 k x → P2 k y → IsZip h' z TI TO (rawInt s.heap.objs.size) → IsPair h' TO x y → St1 (k + 1) h' → St2 (k + 1) h' → IsPair h' s.heap.objs.size x y →
      (∀ c o, c ≠ z → c ≠ TO → c ≠ i1 → c ≠ i2 → s.heap.get? c = some o → h'.get? c = some o) → Q (some (.ref s.heap.objs.size)) { s with heap := h', toks := tk }) :
    wpAny (model prog w) A (pyNext (.ref z)) Q E s := by
  have hT : s.TypeIs (.ref z) "zip" := ⟨_, hz, rfl⟩
  unfold pyNext
  exact wpAny_bind (wpAny_attempt (wpAny_callSpecial?_slot (name := Str.ofString "__next__") hT F.slot_zip_next
    (wpAny_call_entry F.slot_zip_next hT F.entry_zip_next
      (zip2_item D1 D2 ap hz hTI hTO h1 h2 k1 k2 fun x y h' tk p1 p2 c1 c2 c3 c4 c5 c6 => wpAny_pure (hQ x y h' tk p1 p2 c1 c2 c3 c4 c5 c6)) (F.args_zip_next_1 _))))
def ItMk (v : Value) (o : Obj) (h : Heap) : Prop := ∀ (prog : Program) (w : World) (A : Around) (E : Value → Shared → Prop) (s : Shared) (Q : Value → Shared → Prop), (∀ b ob, h.get? b = some ob → s.heap.get? b = some ob) →
  Q (.ref s.heap.objs.size) { s with heap := s.heap.push o } → wpAny (model prog w) A (pyIter v) Q E s
theorem itMk_list {l : Addr} {items : Array Value} {h : Heap} (hl : h.IsList l items) : ItMk (.ref l) { cls := .type "list_iterator", data := .fields #[.ref l, .int 0 0] } h :=
  fun _ _ _ _ _ _ k q => wpAny_pyIter_list (hl.at fun o e => k _ o e) q
theorem itMk_str {x : Str} {t : Tok} {h : Heap} : ItMk (.str x t) { cls := .type (strIterType x), data := .fields #[.str x t, .int 0 0] } h :=
  fun _ _ _ _ _ _ _ q => wpAny_pyIter_strU q
abbrev zh1 (h : Heap) (o1 : Obj) : Heap := h.push o1
abbrev zh2 (h : Heap) (o1 o2 : Obj) : Heap := (zh1 h o1).push o2
abbrev zh3 (h : Heap) (o1 o2 : Obj) : Heap := (zh2 h o1 o2).push { cls := .type "tuple", data := .seq #[.ref h.objs.size, .ref (zh1 h o1).objs.size] }
abbrev zh4 (h : Heap) (o1 o2 : Obj) : Heap := (zh3 h o1 o2).push { cls := .type "tuple", data := .seq #[.none, .none] }
abbrev zh5 (h : Heap) (o1 o2 : Obj) : Heap := (zh4 h o1 o2).push { cls := .type "zip", data := .fields #[.none, .bool false, .bool false, .ref (zh2 h o1 o2).objs.size, .ref (zh3 h o1 o2).objs.size] }
theorem meets_zip2 (v1 v2 : Value) (o1 o2 : Obj) :
    Meets (Builtin.«zip.__new__» ⟨[.type "zip", v1, v2], []⟩) (fun _ R s => ItMk v1 o1 s.heap ∧ ItMk v2 o2 s.heap ∧ R (.ok (.ret (.ref (zh4 s.heap o1 o2).objs.size))) { s with heap := zh5 s.heap o1 o2 }) :=
  .of_wp fun prog w A R s h => by
    obtain ⟨hp, g, d, tk, os⟩ := s; obtain ⟨m1, m2, h⟩ := h
    have hsub := sub_zip
    have M1 := fun (A : Around) (E : Value → Shared → Prop) (Q : Value → Shared → Prop) => m1 prog w A E ⟨hp, g, d, tk, os⟩ Q (fun _ _ e => e)
    have M2 := fun (A : Around) (E : Value → Shared → Prop) (Q : Value → Shared → Prop) => m2 prog w A E ⟨hp.push o1, g, d, tk, os⟩ Q (fun _ _ e => Heap.get?_push_of_some _ e)
    wp_walk using M1 _ _ _, M2 _ _ _
    exact ⟨_, rfl, h⟩
theorem call_zip2 {v1 v2 : Value} {o1 o2 : Obj} {Q : Value → Shared → Prop} (m1 : ItMk v1 o1 s.heap) (m2 : ItMk v2 o2 s.heap) (f1 : o1.isFreed = false) (f2 : o2.isFreed = false)
    (h : ∀ h', IsZip h' (s.heap.objs.size + 4) (s.heap.objs.size + 2) (s.heap.objs.size + 3) .none → IsPair h' (s.heap.objs.size + 2) (.ref s.heap.objs.size) (.ref (s.heap.objs.size + 1)) →
      IsPair h' (s.heap.objs.size + 3) .none .none → h'.get? s.heap.objs.size = some o1 → h'.get? (s.heap.objs.size + 1) = some o2 →
      (∀ c o, s.heap.get? c = some o → h'.get? c = some o) → Q (.ref (s.heap.objs.size + 4)) { s with heap := h' }) :
    wpAny (model prog w) A (call (.type "zip") [v1, v2]) Q E s := by
  refine callType_new F.called_zip (by decide) (F.typeCall_zip_2 _ _) (F.newCall_zip_2 _ _) (fun obj => F.args_object_init_3 obj _ _) F.entry_zip_new (meets_zip2 v1 v2 o1 o2) ⟨m1, m2, ?_⟩
  have z1 : (zh1 s.heap o1).objs.size = s.heap.objs.size + 1 := Heap.size_push ..
  have z2 : (zh2 s.heap o1 o2).objs.size = s.heap.objs.size + 2 := by rw [Heap.size_push, z1]
  have z3 : (zh3 s.heap o1 o2).objs.size = s.heap.objs.size + 3 := by rw [Heap.size_push, z2]
  have z4 : (zh4 s.heap o1 o2).objs.size = s.heap.objs.size + 4 := by rw [Heap.size_push, z3]
  have g5 : (zh5 s.heap o1 o2).get? (zh4 s.heap o1 o2).objs.size = some _ := Heap.get?_push_size _ rfl
  have g4 : (zh5 s.heap o1 o2).get? (zh3 s.heap o1 o2).objs.size = some _ := Heap.get?_push_of_some _ (Heap.get?_push_size _ rfl)
  have g3 : (zh5 s.heap o1 o2).get? (zh2 s.heap o1 o2).objs.size = some _ := Heap.get?_push_of_some _ (Heap.get?_push_of_some _ (Heap.get?_push_size _ rfl))
  have g2 : (zh5 s.heap o1 o2).get? (zh1 s.heap o1).objs.size = some o2 := Heap.get?_push_of_some _ (Heap.get?_push_of_some _ (Heap.get?_push_of_some _ (Heap.get?_push_size _ f2)))
  have g1 : (zh5 s.heap o1 o2).get? s.heap.objs.size = some o1 := Heap.get?_push_of_some _ (Heap.get?_push_of_some _ (Heap.get?_push_of_some _ (Heap.get?_push_of_some _ (Heap.get?_push_size _ f1))))
  show _ ∧ _
  rw [z2, z3, z4] at g5
  rw [z1, z2] at g3
  rw [z3] at g4
  rw [z1] at g2
  rw [z4]
  exact ⟨⟨_, g5, rfl⟩, h _ g5 g3 g4 g1 g2 fun c o x => Heap.get?_push_of_some _ (Heap.get?_push_of_some _ (Heap.get?_push_of_some _ (Heap.get?_push_of_some _ (Heap.get?_push_of_some _ x))))⟩
end
end LX
namespace LX
open PySem PySem.Spec PyProof.Rows L2
open Sem (wp)
theorem nolen_lri : typeLookup (.type "list_reverseiterator") "__len__" = pure none := by rw [typeLookup_type, builtinLookup_eq_fast]; kernel_rfl
theorem hint_lri : typeLookup (.type "list_reverseiterator") "__length_hint__" = pure (some (.builtin "list_reverseiterator.__length_hint__")) := by rw [typeLookup_type, builtinLookup_eq_fast]; kernel_rfl
section
variable {prog : Program} {w : World} {A : Around} {E : Value → Shared → Prop} {s : Shared}
theorem extend_rev {R : Result → Shared → Prop} {I : Addr} {fp wr : List Addr} {n : Nat} {P : Nat → Value → Prop} {St : Nat → Heap → Prop} (W : Walks prog w A.in1 I fp wr n P St) (hT : ∀ i (s : Shared), St i s.heap → s.TypeIs (.ref I) "list_reverseiterator") (S : Addr) (res : Value) (c₀ : Nat)
    (hS : s.heap.get? S = some { cls := .type "list", data := .seq #[] c₀ }) (hSf : S ∉ fp) (hI : I ∈ fp) (hst : St 0 s.heap)
    (hR : ∀ h' tk acc' c', (∀ b o, b ≠ S → b ∉ wr → s.heap.get? b = some o → h'.get? b = some o) → h'.get? S = some { cls := .type "list", dict := none, data := .seq acc' c', slots := #[] } →
      ItemsOf P acc' n → R (.ok (.ret res)) { s with heap := h', toks := tk }) (hn : n ≤ sizeLine) :
    wpAny (model prog w) A.in1 (Builtin.List.listExtendWith (.ref S) (.ref I) res)
      (fun fin s' => match fin with | .done f => R (.ok f) s' | .again c' => c'.quiet = true ∧ codeAny (model prog w) A c' R s') (fun e s' => R (.error e) s') s := by
  have hSI : S ≠ I := fun e => hSf (e ▸ hI)
  have h1 : Builtin.List.listSameRef (.ref S) (.ref I) = false := by simp [Builtin.List.listSameRef, hSI]
  unfold Builtin.List.listExtendWith
  refine wpAny_bind (wpAny_typeOf (hT 0 _ hst) ?_)
  rw [if_neg (by rw [h1]; decide)]
  refine wpAny_bind (W.self 0 _ _ _ hst ?_)
  refine wpAny_bind (wpAny_holding ?_)
  unfold Builtin.List.listLengthHint
  refine wpAny_bind (wpAny_specialOf (hT 0 _ hst) nolen_lri ?_)
  show wpAny _ A.in1 (specialOf (Value.ref I) (Str.ofString "__length_hint__") >>= _) _ _ _
  refine wpAny_bind (wpAny_specialOf (hT 0 _ hst) hint_lri ?_)
  (generalize hid : ("list_reverseiterator.__length_hint__" : String) = id0; wp_delta; rw [show splitId id0 = some ("list_reverseiterator", "__length_hint__") from by subst hid; decide +kernel]; subst hid)
  refine wpAny_bind (wpAny_isInstance (b := true) (hT 0 _ hst) (by rw [isSubtype_type]; kernel_rfl) ?_)
  refine wpAny_pure ?_
  rw [if_neg (by decide)]
  refine wpAny_pure ⟨plainId_quiet F.plain_extend_loop _, codeAny_extend_loopS W.toS hn _ hSf _ n 0 _ _ _ rfl (Nat.zero_le _) hst hS (ItemsOf.nil P) fun s' acc' c' hm hS' hacc => ?_⟩
  rw [Moved.eq_with hm]
  refine hR s'.heap s'.toks acc' c' (fun b ob hb hw e => hm.heap b ob (fun hmem => ?_) e) hS' hacc
  rcases List.mem_cons.mp hmem with e' | hmem
  · exact hb e'
  · exact hw hmem
theorem list_init_rev {R : Result → Shared → Prop} {I : Addr} {fp wr : List Addr} {n : Nat} {P : Nat → Value → Prop} {St : Nat → Heap → Prop} (W : Walks prog w A.in1 I fp wr n P St) (hT : ∀ i (s : Shared), St i s.heap → s.TypeIs (.ref I) "list_reverseiterator") (S : Addr)
    (hS : s.heap.get? S = some { cls := .type "list", data := .seq #[] }) (hSf : S ∉ fp) (hI : I ∈ fp) (hst : St 0 s.heap)
    (hR : ∀ h' tk acc' c', (∀ b o, b ≠ S → b ∉ wr → s.heap.get? b = some o → h'.get? b = some o) → h'.get? S = some { cls := .type "list", dict := none, data := .seq acc' c', slots := #[] } →
      ItemsOf P acc' n → R (.ok (.ret .none)) { s with heap := h', toks := tk }) (hn : n ≤ sizeLine) :
    wpAny (model prog w) A.in1 (Builtin.«list.__init__» ⟨[.ref S, .ref I], []⟩)
      (fun fin s' => match fin with | .done f => R (.ok f) s' | .again c' => c'.quiet = true ∧ codeAny (model prog w) A c' R s') (fun e s' => R (.error e) s') s := by
  show wpAny _ _ (do let old ← Builtin.List.listItems (.ref S); Builtin.List.listUpdate (.ref S) (fun _ => #[]); letGo old.toList.reverse; Builtin.List.listExtendWith (.ref S) (.ref I) .none) _ _ s
  refine wpAny_bind ?_
  unfold Builtin.List.listItems
  refine wpAny_bind (wpAny_seqItems hS rfl (wpAny_pure ?_))
  show wpAny _ _ (updateSeq S (fun _ => #[]) >>= fun _ => letGo (#[] : Array Value).toList.reverse >>= fun _ => Builtin.List.listExtendWith (.ref S) (.ref I) .none) _ _ s
  refine wpAny_bind (wpAny_updateSeq hS rfl ?_)
  have hS₂ := Heap.get?_update_self (Obj.mapSeq (fun _ => (#[] : Array Value))) hS rfl
  have oth : ∀ b o, b ≠ S → s.heap.get? b = some o → (s.heap.update S (Obj.mapSeq (fun _ => (#[] : Array Value)))).get? b = some o :=
    fun b o hb e => (Heap.get?_update_other _ _ (Ne.symm hb)).trans e
  refine wpAny_bind (wpAny_letGo ?_)
  refine extend_rev W hT S .none _ hS₂ hSf hI (W.frame _ _ _ hst fun b hb o e => oth b o (fun q => hSf (q ▸ hb)) e) (fun h' tk acc' c' hk hS' hacc => ?_) hn
  exact hR h' tk acc' c' (fun b o hb hw e => hk b o hb hw (oth b o hb e)) hS' hacc
theorem call_list_rev {Q : Value → Shared → Prop} (hh : A.handled = none) {l I : Addr} {items : Array Value} (hit : s.heap.IsRevIter I l ((items.size : Int) - 1)) (hl : s.heap.IsList l items) (hne : l ≠ I)
    (hQ : ∀ h' tk acc' c', (∀ b o, b ≠ I → s.heap.get? b = some o → h'.get? b = some o) →
      h'.get? s.heap.objs.size = some { cls := .type "list", dict := none, data := .seq acc' c', slots := #[] } → ItemsOf (fun i v => items[items.size - 1 - i]? = some v) acc' items.size → Q (.ref s.heap.objs.size) { s with heap := h', toks := tk }) (hn : items.size ≤ sizeLine) :
    wpAny (model prog w) A (call (.type "list") [.ref I]) Q E s := by
  refine callType_codes (Q₁ := fun obj s₁ => obj = .ref s.heap.objs.size ∧ s₁ = { s with heap := s.heap.push { cls := .type "list", data := .seq #[] } }) F.called_list (F.typeCall_list_1 _) F.entry_list_init
    (code_list_new _ ⟨rfl, rfl⟩) fun obj s₁ h₁ => ?_
  obtain ⟨rfl, rfl⟩ := h₁
  have hS : (s.heap.push { cls := .type "list", data := .seq #[] }).get? s.heap.objs.size = some { cls := .type "list", data := .seq #[] } := Heap.get?_push_size _ rfl
  have lI : I < s.heap.objs.size := by obtain ⟨o, ho, _⟩ := hit; exact Heap.lt_size ho
  have ll : l < s.heap.objs.size := by obtain ⟨o, ho, _⟩ := hl; exact Heap.lt_size ho
  refine ⟨⟨_, hS, rfl⟩, F.args_list_init_2 _ _, list_init_rev (A := A.in1) (Walks.listRev (A := A.in1.in1) hh I l hne items) (fun i s x => x.2.1.typeIs) _ hS ?_ (by simp) ⟨Nat.zero_le _, ?_, hl.at fun o e => Heap.get?_push_of_some _ e⟩ (fun h' tk acc' c' hk hS' hacc => ?_) hn⟩
  · intro hm
    rcases List.mem_cons.mp hm with e | hm
    · exact absurd lI (by rw [← e]; exact Nat.lt_irrefl _)
    · exact absurd ll (by rw [← List.mem_singleton.mp hm]; exact Nat.lt_irrefl _)
  · have e : (items.size : Int) - 1 - ((0 : Nat) : Int) = (items.size : Int) - 1 := by omega
    rw [e]
    exact hit.at fun o e => Heap.get?_push_of_some _ e
  · exact ⟨rfl, hQ h' tk acc' c' (fun b o hb e => hk b o (Nat.ne_of_lt (Heap.lt_size e)) (fun q => hb (List.mem_singleton.mp q)) (Heap.get?_push_of_some _ e)) hS' hacc⟩
end
end LX
namespace LX
open PySem PySem.Spec PyProof.Rows L2
open AutoSeq1 (wpAny_loadPart')
open SeqAt

section
variable {X : Cx}
theorem items_rev {items : Array Value} {acc : Array Value} (h : ItemsOf (fun i v => items[items.size - 1 - i]? = some v) acc items.size) : acc.toList = items.toList.reverse := by
  obtain ⟨hs, hv⟩ := h
  refine List.ext_getElem? fun i => ?_
  by_cases hi : i < items.size
  · have h1 : acc[i]? = some acc[i] := Array.getElem?_eq_getElem (by omega)
    have h2 := hv i _ h1
    rw [List.getElem?_reverse (by simpa using hi), Array.getElem?_toList, Array.getElem?_toList, h1, Array.length_toList, h2]
  · rw [List.getElem?_eq_none (by rw [Array.length_toList]; omega), List.getElem?_eq_none (by rw [List.length_reverse, Array.length_toList]; omega)]
def tRev (K : PySem.W.Frag) (te : TE) : TE := fun σ H Q => te σ H fun x H1 => ∃ a ys, x = .ref a ∧ SqL K H1 a ys ∧ ∀ l, H1 l = none → Q (.ref l) (upd H1 l (.lst ys.reverse))
theorem pe_list_rev {e : Expr} {te : TE} {p p2 pos pos2 : Pos} (he : PE X e te) (hg : Gl X "list") (hm : X.mg "list" = none) (hg2 : Gl X "reversed") (hm2 : X.mg "reversed" = none) (hc : X.calm = true)
    (h1 : starEach [.Call (.Name "reversed" p2) [e] [] pos2] X.env = [(false, eval (.Call (.Name "reversed" p2) [e] [] pos2) X.env)] := by rfl) (h2 : starEach [e] X.env = [(false, eval e X.env)] := by rfl) :
    PE X (.Call (.Name "list" p) [.Call (.Name "reversed" p2) [e] [] pos2] [] pos) (tRev X.K te) := by
  intro pins s σ H Q I h
  refine wpAny_Call_Name_kw (ld_blt I hg hm PyProof.Rows.boot_list ?_ (by decide) (by decide))
  refine PyProof.Rows.callWith_type1 ?_ h1 (by rfl)
  rw [h1]
  show wpAny _ _ (spliced ((false, eval (.Call (.Name "reversed" p2) [e] [] pos2) X.env) :: backTo pos [])) _ _ s
  refine Calls.spliced_cons ?_
  refine wpAny_Call_Name_kw (ld_blt I hg2 hm2 PyProof.Rows.boot_reversed ?_ (by decide) (by decide))
  refine PyProof.Rows.callWith_type1 ?_ h2 (by rfl)
  rw [h2]
  show wpAny _ _ (spliced ((false, eval e X.env) :: backTo pos2 [])) _ _ s
  refine Calls.spliced_cons (thn (he pins s σ H _ I h) fun v s1 ⟨x, H1, I1, r1, q1⟩ => Calls.spliced_nil ?_)
  obtain ⟨a, ys, rfl, hq, k⟩ := q1
  cases r1
  obtain ⟨its, rv, l1, z1⟩ := I1.list hq
  have hlen := rv.length
  refine call_reversed_list l1.isList (Calls.spliced_nil ?_)
  have hl2 : (s1.heap.push (revObj a ((its.toArray.size : Int) - 1))).IsList a its.toArray := l1.isList.at fun o e => Heap.get?_push_of_some _ e
  have hit : (s1.heap.push (revObj a ((its.toArray.size : Int) - 1))).IsRevIter s1.heap.objs.size a ((its.toArray.size : Int) - 1) := ⟨_, Heap.get?_push_size _ rfl, rfl, rfl⟩
  have hne : a ≠ s1.heap.objs.size := by
    obtain ⟨o, ho, _⟩ := l1.isList
    exact Nat.ne_of_lt (Heap.lt_size ho)
  refine call_list_rev (s := { s1 with heap := s1.heap.push (revObj a ((its.toArray.size : Int) - 1)) }) (I1.ok.hd hc) hit hl2 hne (fun h' tk acc' c' kp e hacc => ?_) (by simp; omega)
  have hrev : acc'.toList = its.reverse := by
    have := items_rev hacc
    simpa using this
  have hz : (s1.heap.push (revObj a ((its.toArray.size : Int) - 1))).objs.size = s1.heap.objs.size + 1 := Heap.size_push ..
  have hle : s1.heap.objs.size ≤ (s1.heap.push (revObj a ((its.toArray.size : Int) - 1))).objs.size := by rw [hz]; exact Nat.le_succ _
  refine ⟨.ref _, _, I1.laid (t' := tk) (o := .lst ys.reverse) (fun b u q => kp b u (Nat.ne_of_lt (Heap.lt_size q)) (Heap.get?_push_of_some _ q)) hle ?_, rfl, k _ (I1.hok.fresh hle)⟩
  refine ⟨by rw [List.length_reverse]; exact z1, its.reverse, c', rv.reverse, ?_⟩
  rw [← hrev]
  simpa using e
end
end LX
namespace LX
open PySem PySem.Spec PyProof.Rows L2

structure Src where
  go : Nat → Hp → Prop
  itm : Nat → Hp → V → Prop
  stp : Nat → Hp → Prop
def srcL (K : PySem.W.Frag) (a : Addr) : Src := ⟨fun i H => ∃ xs x, SqL K H a xs ∧ xs[i]? = some x, fun i H x => ∀ xs, SqL K H a xs → xs[i]? = some x, fun i H => ∃ xs, SqL K H a xs ∧ xs.length = i⟩
def srcS (z : Str) : Src := ⟨fun i _ => i < z.cps.size, fun i _ x => ∃ c, z.cps.toList[i]? = some c ∧ x = .str ⟨#[c]⟩, fun i _ => z.cps.size = i⟩
structure SrcAt (S : Src) (K : PySem.W.Frag) (it : Addr) (tn : Nat → Heap → Prop) : Prop where
  obj : ∀ i h, tn i h → ∃ o, h.get? it = some o ∧ ∀ v, o.data ≠ .cell v
  keep : ∀ i h h', tn i h → (∀ o, h.get? it = some o → h'.get? it = some o) → tn i h'
  draw : ∀ (X : Cx), X.K = K → X.calm = true → ∀ (i : Nat) (pins : List (Addr × Obj)) (s : Shared) (σ : L2.St) (H : Hp), Inv X pins σ H s → H it = none → X.base.get? it = none → tn i s.heap → S.go i H →
    ∃ (fp : List Addr) (n : Nat) (P : Nat → Value → Prop) (Z : Nat → Heap → Prop), Draws X.prog X.w X.A.in1 it fp n P Z ∧ i < n ∧ Z i s.heap ∧ (∀ j h, Z j h → tn j h) ∧ (∀ u, P i u → ∃ x, RelV x u ∧ S.itm i H x) ∧ (∀ b ∈ fp, b = it ∨ H b ≠ none ∨ ∃ o, X.base.get? b = some o)
  fin : ∀ (X : Cx), X.K = K → X.calm = true → ∀ (i : Nat) (pins : List (Addr × Obj)) (s : Shared) (σ : L2.St) (H : Hp), Inv X pins σ H s → H it = none → X.base.get? it = none → tn i s.heap → S.stp i H →
    ∃ (fp : List Addr) (n : Nat) (P : Nat → Value → Prop) (Z : Nat → Heap → Prop), Draws X.prog X.w X.A.in1 it fp n P Z ∧ Z n s.heap ∧ (∀ b ∈ fp, b = it ∨ H b ≠ none ∨ ∃ o, X.base.get? b = some o)
theorem SqL.base {X : Cx} {pins : List (Addr × Obj)} {σ : L2.St} {H : Hp} {s : Shared} {a : Addr} {xs : List V} (I : Inv X pins σ H s) (h : SqL X.K H a xs) : H a ≠ none ∨ ∃ o, X.base.get? a = some o := by
  rcases h with (h | ⟨o, h⟩) | ⟨o, _, _, h, _⟩
  · exact .inl (by rw [h]; exact fun z => by cases z)
  · exact .inl (by rw [h]; exact fun z => by cases z)
  · exact .inr ⟨o, I.mod.kin a o h⟩
theorem srcAt_list {K : PySem.W.Frag} (a it : Addr) : SrcAt (srcL K a) K it (fun i h => h.IsListIter it a i) where
  obj := fun i h st => let ⟨o, e, c, d⟩ := st; ⟨o, e, fun v z => by rw [d] at z; cases z⟩
  keep := fun i h h' st k => st.at fun o e => k o e
  draw := by
    intro X hK hc i pins s σ H I hn nb st hg
    subst hK
    obtain ⟨xs, x, hq, hx⟩ := hg
    obtain ⟨its, rv, pl, hz⟩ := I.list hq
    have hl := rv.length
    have hb := SqL.base I hq
    have hne : a ≠ it := by
      rintro rfl
      rcases hb with z | ⟨o, z⟩
      · exact z hn
      · rw [nb] at z; cases z
    refine ⟨_, _, _, _, Draws.list (prog := X.prog) (w := X.w) (A := X.A.in1) (I.ok.hd hc) it a hne its.toArray, ?_, ⟨st, pl.isList⟩, fun j h z => z.1, fun u hu => ?_, fun b hb' => ?_⟩
    · have := (List.getElem?_eq_some_iff.mp hx).1
      rw [List.size_toArray]; omega
    · obtain ⟨u', hu', ru⟩ := rv.get hx
      have hu2 : its[i]? = some u := by simpa using hu
      rw [hu'] at hu2
      cases hu2
      exact ⟨x, ru, fun ys hy => by rw [I.list_inj hy hq]; exact hx⟩
    · rcases List.mem_cons.mp hb' with e | e
      · exact .inl e
      · rw [List.mem_singleton.mp e]; exact .inr hb
  fin := by
    intro X hK hc i pins s σ H I hn nb st hg
    subst hK
    obtain ⟨xs, hq, hx⟩ := hg
    obtain ⟨its, rv, pl, hz⟩ := I.list hq
    have hl := rv.length
    have hb := SqL.base I hq
    have hne : a ≠ it := by
      rintro rfl
      rcases hb with z | ⟨o, z⟩
      · exact z hn
      · rw [nb] at z; cases z
    refine ⟨_, _, _, _, Draws.list (prog := X.prog) (w := X.w) (A := X.A.in1) (I.ok.hd hc) it a hne its.toArray, ⟨?_, pl.isList⟩, fun b hb' => ?_⟩
    · have e : its.toArray.size = i := by rw [List.size_toArray]; omega
      rw [e]; exact st
    · rcases List.mem_cons.mp hb' with e | e
      · exact .inl e
      · rw [List.mem_singleton.mp e]; exact .inr hb
theorem srcAt_str {K : PySem.W.Frag} (z : Str) (t : Tok) (it : Addr) : SrcAt (srcS z) K it (fun i h => h.IsStrIter it (strIterType z) z t i) where
  obj := fun i h st => let ⟨o, e, c, d⟩ := st; ⟨o, e, fun v z => by rw [d] at z; cases z⟩
  keep := fun i h h' st k => let ⟨o, e, r⟩ := st; ⟨o, k o e, r⟩
  draw := by
    intro X hK hc i pins s σ H I hn nb st hg
    have hg' : i < z.cps.size := hg
    have itm : ∀ u, (∃ c v, z.cps[i]? = some c ∧ u = Value.str ⟨#[c]⟩ v) → ∃ x, RelV x u ∧ (srcS z).itm i H x := fun u ⟨c, v, h1, h2⟩ => ⟨.str ⟨#[c]⟩, ⟨v, h2⟩, c, by rw [Array.getElem?_toList]; exact h1, rfl⟩
    cases ha : z.cps.all (· < 128)
    · have e : strIterType z = "str_iterator" := by simp [strIterType, ha]
      rw [e] at st
      exact ⟨_, _, _, _, Draws.strWide (prog := X.prog) (w := X.w) (A := X.A.in1) (I.ok.hd hc) it z t, hg', st, fun j h q => by rw [e]; exact q, itm, fun b hb => .inl (List.mem_singleton.mp hb)⟩
    · have e : strIterType z = "str_ascii_iterator" := by simp [strIterType, ha]
      rw [e] at st
      exact ⟨_, _, _, _, Draws.strAscii (prog := X.prog) (w := X.w) (A := X.A.in1) (I.ok.hd hc) it z t, hg', st, fun j h q => by rw [e]; exact q, itm, fun b hb => .inl (List.mem_singleton.mp hb)⟩
  fin := by
    intro X hK hc i pins s σ H I hn nb st hg
    have hg' : z.cps.size = i := hg
    subst hg'
    cases ha : z.cps.all (· < 128)
    · have e : strIterType z = "str_iterator" := by simp [strIterType, ha]
      rw [e] at st
      exact ⟨_, _, _, _, Draws.strWide (prog := X.prog) (w := X.w) (A := X.A.in1) (I.ok.hd hc) it z t, st, fun b hb => .inl (List.mem_singleton.mp hb)⟩
    · have e : strIterType z = "str_ascii_iterator" := by simp [strIterType, ha]
      rw [e] at st
      exact ⟨_, _, _, _, Draws.strAscii (prog := X.prog) (w := X.w) (A := X.A.in1) (I.ok.hd hc) it z t, st, fun b hb => .inl (List.mem_singleton.mp hb)⟩

/-- a record of ours is no object of the module -/
theorem FpOk.nobase {X : Cx} {pins : List (Addr × Obj)} {σ : L2.St} {H H' : Hp} {s : Shared} {b : Addr} (I : Inv X pins σ H s) (f : FpOk X pins H' b) : X.base.get? b = none := by
  obtain ⟨_, _, _, f3, _⟩ := f
  cases e : X.base.get? b with
  | none => rfl
  | some o =>
    rcases f3 with z | z
    · exact absurd z (I.ok.noex b o e)
    · exact absurd (Nat.lt_of_lt_of_le (Heap.lt_size e) (Nat.le_trans I.ok.bsz z)) (Nat.lt_irrefl _)
/-- what a step of an iterator leaves: the records at ch turned, a new tuple tracked -/
theorem Inv.drawn {X : Cx} {pins : List (Addr × Obj)} {σ : L2.St} {H : Hp} {s : Shared} {h' : Heap} {tk : Nat} {ch : List Addr} {vs : List V} {us : List Value} (I : Inv X pins σ H s) (hf : ∀ b ∈ ch, FpOk X pins H b)
    (kp : ∀ c o, c ∉ ch → s.heap.get? c = some o → h'.get? c = some o) (ht : h'.get? s.heap.objs.size = some { cls := .type "tuple", data := .seq us.toArray }) (rv : Vals vs us) (hz : vs.length ≤ sizeLine) :
    Inv X pins σ (upd H s.heap.objs.size (.tup vs)) { s with heap := h', toks := tk } := by
  have fresh : H s.heap.objs.size = none := I.hok.fresh (Nat.le_refl _)
  have ltne : ∀ {b : Addr} {o : Obj}, s.heap.get? b = some o → b ≠ s.heap.objs.size := fun e => Nat.ne_of_lt (Heap.lt_size e)
  have nch : ∀ {b : Addr} {u : HO}, H b = some u → b ∉ ch := fun e z => by rw [(hf _ z).1] at e; cases e
  refine I.step (g' := s.gens) (d' := s.drawn) (ch := ch) (fun b hb => let ⟨_, f1, _, f3, f4, f5⟩ := hf b hb; ⟨f3, f1, f4, f5⟩) (fun b o _ _ hc e _ => kp b o hc e) (fun b o _ _ hc e _ => ⟨o.slots, kp b o hc e⟩)
    (fun b o _ e n => by rw [upd_ne (ltne e)]; exact n) (fun b o hc e => ⟨o, kp b o hc e⟩) (fun b xs e => by rw [upd_ne (ne_of_none e fresh)]; exact e) (fun b o u e => by rw [upd_ne (ne_of_none e fresh)]; exact e)
    (fun b ps e => ⟨#[], by rw [upd_ne (ne_of_none e fresh), e]; simp⟩) (fun m hm => ?_) (fun b u e => ?_) I.bare
  · obtain ⟨o, es, ep, ho, r⟩ := hm
    exact ⟨o, es, ep, kp _ o (fun z => (hf _ z).2.1 rfl) ho, r⟩
  · by_cases hb : b = s.heap.objs.size
    · subst hb
      rw [upd_same] at e
      cases e
      exact ⟨hz, us, rv, ⟨_, ht, rfl, _, rfl⟩⟩
    · rw [upd_ne hb] at e
      refine (I.hok b u e).stay (fun c v hc q => kp c v ?_ q) (fun c q => by rw [upd_ne (ne_of_none q fresh)]; exact q) fun c _ q => by rw [upd_ne (ne_of_none q fresh)]; exact q
      rcases hc with z | z
      · rw [z]; exact nch e
      · exact nch z

def Itz2 (S1 S2 : Src) : It := ⟨fun i H => S1.go i H ∧ S2.go i H, fun i H v H' => ∃ T x y, v = .ref T ∧ H T = none ∧ H' = upd H T (.tup [x, y]) ∧ S1.itm i H x ∧ S2.itm i H y, fun i H => S1.stp i H⟩
def Ite (S1 : Src) : It := ⟨fun i H => S1.go i H, fun i H v H' => ∃ T x, v = .ref T ∧ H T = none ∧ H' = upd H T (.tup [.int i, x]) ∧ S1.itm i H x, fun i H => S1.stp i H⟩

theorem turn_zip2 {P : Program} {w : World} {K : PySem.W.Frag} {elts : List Expr} {x1 : Nat} {pos : Pos} {S1 S2 : Src} {z TI TO i1 i2 : Addr} {t1 t2 : Nat → Heap → Prop} (A1 : SrcAt S1 K i1 t1) (A2 : SrcAt S2 K i2 t2) (nd : [z, TI, TO, i1, i2].Nodup) :
    Turn P w K (.Tuple elts x1 pos) (Itz2 S1 S2) [z, TI, TO, i1, i2] z (fun i h => IsZip h z TI TO .none ∧ IsPair h TI (.ref i1) (.ref i2) ∧ (∃ a b, IsPair h TO a b) ∧ t1 i h ∧ t2 i h) where
  mem := by simp
  obj := fun i h ⟨hz, hTI, ⟨a, b, hTO⟩, h1, h2⟩ c hc => by
    simp only [List.mem_cons, List.not_mem_nil, or_false] at hc
    rcases hc with rfl | rfl | rfl | rfl | rfl
    · exact ⟨_, hz, fun v q => by cases q⟩
    · exact ⟨_, hTI, fun v q => by cases q⟩
    · exact ⟨_, hTO, fun v q => by cases q⟩
    · exact A1.obj _ _ h1
    · exact A2.obj _ _ h2
  keep := fun i h h' ⟨hz, hTI, ⟨a, b, hTO⟩, h1, h2⟩ k => ⟨k z (by simp) _ hz, k TI (by simp) _ hTI, ⟨a, b, k TO (by simp) _ hTO⟩, A1.keep _ _ _ h1 fun o e => k i1 (by simp) o e, A2.keep _ _ _ h2 fun o e => k i2 (by simp) o e⟩
  item := by
    intro X hP hw hK hc i pins s σ H E I hf st hg
    subst hP hw hK
    obtain ⟨hz, hTI, ⟨a, b, hTO⟩, h1, h2⟩ := st
    simp only [List.nodup_cons, List.mem_cons, List.not_mem_nil, or_false, not_or] at nd
    obtain ⟨⟨n1, n2, n3, n4⟩, ⟨n5, n6, n7⟩, ⟨n8, n9⟩, n10, _⟩ := nd
    have fz := hf z (by simp)
    have fO := hf TO (by simp)
    have f1 := hf i1 (by simp)
    have f2 := hf i2 (by simp)
    obtain ⟨fp1, m1, P1, Z1, D1, k1, s1, c1, u1, e1⟩ := A1.draw X rfl hc i pins s σ H I f1.1 (FpOk.nobase I f1) h1 hg.1
    obtain ⟨fp2, m2, P2, Z2, D2, k2, s2, c2, u2, e2⟩ := A2.draw X rfl hc i pins s σ H I f2.1 (FpOk.nobase I f2) h2 hg.2
    have out : ∀ {b j : Addr} {fp : List Addr}, (∀ b ∈ fp, b = j ∨ H b ≠ none ∨ ∃ o, X.base.get? b = some o) → b ≠ j → FpOk X pins H b → b ∉ fp := fun {b j fp} e hne f hm => by
      rcases e b hm with q | q | ⟨o, q⟩
      · exact hne q
      · exact q f.1
      · rw [FpOk.nobase I f] at q; cases q
    have ap : Ap2 z TI TO i1 i2 fp1 fp2 := ⟨out e1 n3 fz, out e2 n4 fz, out e1 n8 fO, out e2 n9 fO, out e2 n10 f1, out e1 (Ne.symm n10) f2, Ne.symm n1, n5, n6, n7, Ne.symm n2, n8, n9, Ne.symm n3, Ne.symm n4⟩
    refine pyNext_zip2_item D1 D2 ap hz hTI hTO s1 s2 k1 k2 fun x y h' tk p1 p2 q1 q2 q3 q4 q5 q6 => ⟨_, rfl, ?_⟩
    obtain ⟨vx, rx, ix⟩ := u1 x p1
    obtain ⟨vy, ry, iy⟩ := u2 y p2
    have hT : s.heap.objs.size ≠ z := Nat.ne_of_gt (Heap.lt_size hz)
    refine wpAny_letOwnedTupleGo_zip q1 fun h'' z'' sb => ?_
    have IX : Inv X pins σ (upd H s.heap.objs.size (.tup [vx, vy])) { s with heap := h'', toks := tk } := Inv.drawn (ch := [z, TO, i1, i2]) (us := [x, y]) I (fun b hb => hf b (by
        simp only [List.mem_cons, List.not_mem_nil, or_false] at hb ⊢
        rcases hb with q | q | q | q <;> simp [q])) (fun c o hc e => by
        simp only [List.mem_cons, List.not_mem_nil, or_false, not_or] at hc
        exact sb.extBut c o hc.1 (q6 c o hc.1 hc.2.1 hc.2.2.1 hc.2.2.2 e)) (sb.extBut _ _ hT q5) (.cons rx (.cons ry .nil)) (by show 2 ≤ sizeLine; decide)
    refine ⟨.ref s.heap.objs.size, _, IX, rfl, ⟨_, vx, vy, rfl, I.hok.fresh (Nat.le_refl _), rfl, ix, iy⟩, ⟨z'', sb.extBut _ _ (Ne.symm n1) (q6 _ _ (Ne.symm n1) n5 n6 n7 hTI), ⟨x, y, sb.extBut _ _ (Ne.symm n2) q2⟩,
      A1.keep _ _ _ (c1 _ _ q3) fun o e => sb.extBut _ _ (Ne.symm n3) e, A2.keep _ _ _ (c2 _ _ q4) fun o e => sb.extBut _ _ (Ne.symm n4) e⟩, fun b hb => ?_⟩
    obtain ⟨o, ho⟩ : ∃ o, s.heap.get? b = some o := by
      simp only [List.mem_cons, List.not_mem_nil, or_false] at hb
      rcases hb with rfl | rfl | rfl | rfl | rfl
      · exact ⟨_, hz⟩
      · exact ⟨_, hTI⟩
      · exact ⟨_, hTO⟩
      · obtain ⟨o, q, _⟩ := A1.obj _ _ h1; exact ⟨o, q⟩
      · obtain ⟨o, q, _⟩ := A2.obj _ _ h2; exact ⟨o, q⟩
    rw [upd_ne (Nat.ne_of_lt (Heap.lt_size ho))]
    exact (hf b hb).1
  done := by
    intro X hP hw hK hc i pins s σ H E I hf st hg
    subst hP hw hK
    obtain ⟨hz, hTI, ⟨a, b, hTO⟩, h1, h2⟩ := st
    simp only [List.nodup_cons, List.mem_cons, List.not_mem_nil, or_false, not_or] at nd
    obtain ⟨⟨n1, n2, n3, n4⟩, ⟨n5, n6, n7⟩, ⟨n8, n9⟩, n10, _⟩ := nd
    have fz := hf z (by simp)
    have f1 := hf i1 (by simp)
    obtain ⟨fp1, m1, P1, Z1, D1, s1, e1⟩ := A1.fin X rfl hc i pins s σ H I f1.1 (FpOk.nobase I f1) h1 hg
    have oz : z ∉ fp1 := fun hm => by
      rcases e1 z hm with q | q | ⟨o, q⟩
      · exact n3 q
      · exact q fz.1
      · rw [FpOk.nobase I fz] at q; cases q
    refine pyNext_zip_end D1 oz (Ne.symm n3) rfl hz hTI s1 fun h' kp => ⟨rfl, ?_⟩
    have nit : ∀ b u, H b = some u → b ∉ [z, i1] := fun b u e q => by
      simp only [List.mem_cons, List.not_mem_nil, or_false] at q
      rcases q with rfl | rfl
      · rw [fz.1] at e; cases e
      · rw [f1.1] at e; cases e
    have kp' : ∀ c o, c ∉ [z, i1] → s.heap.get? c = some o → h'.get? c = some o := fun c o hc e => by
      simp only [List.mem_cons, List.not_mem_nil, or_false, not_or] at hc
      exact kp c o hc.1 hc.2 e
    have hch : ∀ b ∈ [z, i1], FpOk X pins H b := fun b hb => by
      simp only [List.mem_cons, List.not_mem_nil, or_false] at hb
      rcases hb with rfl | rfl
      · exact fz
      · exact f1
    refine I.step (g' := s.gens) (d' := s.drawn) (t' := s.toks) (ch := [z, i1]) (fun b hb => let ⟨_, f1, _, f3, f4, f5⟩ := hch b hb; ⟨f3, f1, f4, f5⟩) (fun b o _ _ hc e _ => kp' b o hc e) (fun b o _ _ hc e _ => ⟨o.slots, kp' b o hc e⟩) (fun _ _ _ _ n => n)
      (fun b o hc e => ⟨o, kp' b o hc e⟩) (fun _ _ e => e) (fun _ _ _ e => e) (fun b ps e => ⟨#[], by rw [e]; simp⟩) (fun m hm => ?_) (fun b u e => ?_) I.bare
    · obtain ⟨o, es, ep, ho, r⟩ := hm
      exact ⟨o, es, ep, kp' _ o (fun z => (hch _ z).2.1 rfl) ho, r⟩
    · refine (I.hok b u e).stay (fun c v hc q => kp' c v ?_ q) (fun _ q => q) fun _ _ q => q
      rcases hc with q | q
      · rw [q]; exact nit b u e
      · exact nit c _ q
  self := fun _ _ _ _ _ st h => wpAny_pyIter_zip st.1 h

/-- the records at ch have turned -/
theorem Inv.turnedAll {X : Cx} {pins : List (Addr × Obj)} {σ : L2.St} {H : Hp} {s : Shared} {h' : Heap} {tk : Nat} {ch : List Addr} (I : Inv X pins σ H s) (hch : ∀ b ∈ ch, FpOk X pins H b) (kp : ∀ c o, c ∉ ch → s.heap.get? c = some o → h'.get? c = some o) :
    Inv X pins σ H { s with heap := h', toks := tk } := by
  have nit : ∀ b u, H b = some u → b ∉ ch := fun b u e q => by rw [(hch b q).1] at e; cases e
  refine I.step (g' := s.gens) (d' := s.drawn) (ch := ch) (fun b hb => let ⟨_, f1, _, f3, f4, f5⟩ := hch b hb; ⟨f3, f1, f4, f5⟩) (fun b o _ _ hc e _ => kp b o hc e) (fun b o _ _ hc e _ => ⟨o.slots, kp b o hc e⟩) (fun _ _ _ _ n => n)
    (fun b o hc e => ⟨o, kp b o hc e⟩) (fun _ _ e => e) (fun _ _ _ e => e) (fun b ps e => ⟨#[], by rw [e]; simp⟩) (fun m hm => ?_) (fun b u e => ?_) I.bare
  · obtain ⟨o, es, ep, ho, r⟩ := hm
    exact ⟨o, es, ep, kp _ o (fun z => (hch _ z).2.1 rfl) ho, r⟩
  · refine (I.hok b u e).stay (fun c v hc q => kp c v ?_ q) (fun _ q => q) fun _ _ q => q
    rcases hc with q | q
    · rw [q]; exact nit b u e
    · exact nit c _ q
theorem turn_enum {P : Program} {w : World} {K : PySem.W.Frag} {elts : List Expr} {x1 : Nat} {pos : Pos} {S1 : Src} {e it : Addr} {t1 : Nat → Heap → Prop} (A1 : SrcAt S1 K it t1) (nd : e ≠ it) :
    Turn P w K (.Tuple elts x1 pos) (Ite S1) [e, it] e (fun i h => (∃ old, IsEnum h e it i old) ∧ t1 i h) where
  mem := by simp
  obj := fun i h ⟨⟨old, he⟩, h1⟩ c hc => by
    simp only [List.mem_cons, List.not_mem_nil, or_false] at hc
    rcases hc with rfl | rfl
    · exact ⟨_, he, fun v q => by cases q⟩
    · exact A1.obj _ _ h1
  keep := fun i h h' ⟨⟨old, he⟩, h1⟩ k => ⟨⟨old, k e (by simp) _ he⟩, A1.keep _ _ _ h1 fun o q => k it (by simp) o q⟩
  item := by
    intro X hP hw hK hc i pins s σ H E I hf st hg
    subst hP hw hK
    obtain ⟨⟨old, he⟩, h1⟩ := st
    have fe := hf e (by simp)
    have f1 := hf it (by simp)
    obtain ⟨fp1, m1, P1, Z1, D1, k1, s1, c1, u1, e1⟩ := A1.draw X rfl hc i pins s σ H I f1.1 (FpOk.nobase I f1) h1 hg
    have oe : e ∉ fp1 := fun hm => by
      rcases e1 e hm with q | q | ⟨o, q⟩
      · exact nd q
      · exact q fe.1
      · rw [FpOk.nobase I fe] at q; cases q
    refine wpAny_pyNext_enum_itemD D1 he s1 k1 nd oe fun x h' tk p1 q1 q2 q3 q4 q5 => ⟨_, rfl, ?_⟩
    obtain ⟨vx, rx, ix⟩ := u1 x p1
    have hT : s.heap.objs.size ≠ e := Nat.ne_of_gt (Heap.lt_size he)
    refine wpAny_letOwnedTupleGo_enum q1 fun h'' he'' sb => ?_
    have IX : Inv X pins σ (upd H s.heap.objs.size (.tup [.int i, vx])) { s with heap := h'', toks := tk + 1 } := Inv.drawn (ch := [e, it]) (us := [.int i tk, x]) I (fun b hb => hf b hb) (fun c o hc q => by
        simp only [List.mem_cons, List.not_mem_nil, or_false, not_or] at hc
        exact sb.extBut c o hc.1 (q5 c o hc.1 hc.2 q)) (sb.extBut _ _ hT q3) (.cons ⟨tk, rfl⟩ (.cons rx .nil)) (by show 2 ≤ sizeLine; decide)
    refine ⟨.ref s.heap.objs.size, _, IX, rfl, ⟨_, vx, rfl, I.hok.fresh (Nat.le_refl _), rfl, ix⟩, ⟨⟨x, by simpa using he''⟩, A1.keep _ _ _ (c1 _ _ q2) fun o q => sb.extBut _ _ (Ne.symm nd) q⟩, fun b hb => ?_⟩
    obtain ⟨o, ho⟩ : ∃ o, s.heap.get? b = some o := by
      simp only [List.mem_cons, List.not_mem_nil, or_false] at hb
      rcases hb with rfl | rfl
      · exact ⟨_, he⟩
      · obtain ⟨o, q, _⟩ := A1.obj _ _ h1; exact ⟨o, q⟩
    rw [upd_ne (Nat.ne_of_lt (Heap.lt_size ho))]
    exact (hf b hb).1
  done := by
    intro X hP hw hK hc i pins s σ H E I hf st hg
    subst hP hw hK
    obtain ⟨⟨old, he⟩, h1⟩ := st
    have fe := hf e (by simp)
    have f1 := hf it (by simp)
    obtain ⟨fp1, m1, P1, Z1, D1, s1, e1⟩ := A1.fin X rfl hc i pins s σ H I f1.1 (FpOk.nobase I f1) h1 hg
    refine wpAny_pyNext_enum_endD D1 he s1 fun h' kp => ⟨rfl, ?_⟩
    refine Inv.turnedAll (ch := [it]) (tk := s.toks) I (fun b hb => ?_) fun c o hc q => ?_
    · rw [List.mem_singleton.mp hb]; exact f1
    · exact kp c o (fun z => hc (by rw [z]; exact List.mem_cons_self)) q
  self := fun _ _ _ _ _ st h => let ⟨⟨_, he⟩, _⟩ := st; wpAny_pyIter_enum he h

inductive IsSrc (K : PySem.W.Frag) (H : Hp) : V → Src → Prop where
  | lst {a : Addr} {xs : List V} (h : SqL K H a xs) : IsSrc K H (.ref a) (srcL K a)
  | str (z : Str) : IsSrc K H (.str z) (srcS z)
theorem IsSrc.make {X : Cx} {pins : List (Addr × Obj)} {σ : L2.St} {H : Hp} {s : Shared} {v : V} {u : Value} {S : Src} (I : Inv X pins σ H s) (h : IsSrc X.K H v S) (r : RelV v u) :
    ∃ (o : Obj) (tn : Addr → Nat → Heap → Prop), ItMk u o s.heap ∧ o.isFreed = false ∧ (∀ it, SrcAt S X.K it (tn it)) ∧ ∀ it h, h.get? it = some o → tn it 0 h := by
  cases h with
  | lst hq =>
    cases r
    obtain ⟨its, rv, pl, hz⟩ := I.list hq
    exact ⟨_, _, itMk_list pl.isList, rfl, fun it => srcAt_list _ it, fun it h e => ⟨_, e, rfl, rfl⟩⟩
  | str z =>
    obtain ⟨t, rfl⟩ := r
    exact ⟨_, _, itMk_str, rfl, fun it => srcAt_str z t it, fun it h e => ⟨_, e, rfl, rfl⟩⟩
section
variable {X : Cx} {elts : List Expr} {x1 : Nat} {tpos : Pos}
def iZip2 (K : PySem.W.Frag) (ta : TA) : TI := fun σ H R => ta σ H fun vs H1 => ∃ v1 v2 S1 S2, vs = [v1, v2] ∧ IsSrc K H1 v1 S1 ∧ IsSrc K H1 v2 S2 ∧ R (Itz2 S1 S2) H1
def iEnum (K : PySem.W.Frag) (ta : TA) : TI := fun σ H R => ta σ H fun vs H1 => ∃ a xs, vs = [.ref a] ∧ SqL K H1 a xs ∧ R (Ite (srcL K a)) H1
theorem pi_zip2 {a b : Expr} {ta : TA} {p pos : Pos} (hg : Gl X "zip") (hm : X.mg "zip" = none) (ha : PA X [a, b] ta) (hs : starEach [a, b] X.env = [(false, eval a X.env), (false, eval b X.env)] := by rfl) (hs2 : starEach [b] X.env = [(false, eval b X.env)] := by rfl) :
    PI X (.Tuple elts x1 tpos) (.Call (.Name "zip" p) [a, b] [] pos) (iZip2 X.K ta) := by
  intro pins s σ H R I h
  refine Call_ (ld_blt I hg hm PyProof.Rows.boot_zip (PyProof.Rows.callWith_type1 (thn (ha pos pins s σ H _ I h) fun us s1 ⟨vs, H1, I1, r1, q1⟩ => ?_) (by rw [hs, hs2]) (by rw [hs2]; rfl)))
  obtain ⟨v1, v2, S1, S2, rfl, g1, g2, q⟩ := q1
  obtain ⟨u1, u2, rfl, ru1, ru2⟩ := vals2 r1
  obtain ⟨o1, t1, m1, f1, A1, z1⟩ := g1.make I1 ru1
  obtain ⟨o2, t2, m2, f2, A2, z2⟩ := g2.make I1 ru2
  refine call_zip2 m1 m2 f1 f2 fun h' c1 c2 c3 c4 c5 kp => ?_
  refine wpAny_pyIter_zip c1 ?_
  generalize hn : s1.heap.objs.size = n at c1 c2 c3 c4 c5
  refine ⟨n + 4, [n + 4, n + 2, n + 3, n, n + 1], _, _, H1, rfl, I1.kept (t' := s1.toks) kp, turn_zip2 (A1 n) (A2 (n + 1)) (by simp), ⟨c1, c2, ⟨_, _, c3⟩, z1 _ _ c4, z2 _ _ c5⟩, fun b hb => ?_, q⟩
  have hle : s1.heap.objs.size ≤ b := by
    simp only [List.mem_cons, List.not_mem_nil, or_false] at hb
    rw [hn]
    rcases hb with rfl | rfl | rfl | rfl | rfl <;> omega
  exact I1.fpOk hle (I1.hok.fresh hle)
theorem Vals.three : ∀ {x y z : V} {us : List Value}, Vals [x, y, z] us → ∃ u v w, us = [u, v, w] ∧ RelV x u ∧ RelV y v ∧ RelV z w
  | _, _, _, _, .cons r (.cons q (.cons p .nil)) => ⟨_, _, _, rfl, r, q, p⟩
theorem pi_enum {a : Expr} {ta : TA} {p pos : Pos} (hg : Gl X "enumerate") (hm : X.mg "enumerate" = none) (ha : PA X [a] ta) (hs : starEach [a] X.env = [(false, eval a X.env)] := by rfl) :
    PI X (.Tuple elts x1 tpos) (.Call (.Name "enumerate" p) [a] [] pos) (iEnum X.K ta) := by
  intro pins s σ H R I h
  refine Call_ (ld_blt I hg hm PyProof.Rows.boot_enumerate (PyProof.Rows.callWith_type1 (thn (ha pos pins s σ H _ I h) fun us s1 ⟨vs, H1, I1, r1, q1⟩ => ?_) hs rfl))
  obtain ⟨a', xs, rfl, hq, q⟩ := q1
  obtain ⟨u1, rfl, ru1⟩ := vals1 r1
  cases ru1
  obtain ⟨its, rv, pl, hz⟩ := I1.list hq
  refine call_enumerate_list pl.isList fun h' c1 c2 c3 kp => ?_
  refine wpAny_pyIter_enum c1 ?_
  generalize hn : s1.heap.objs.size = n at c1 c2 c3
  refine ⟨n + 1, [n + 1, n], _, _, H1, rfl, I1.kept (t' := s1.toks) kp, turn_enum (srcAt_list a' n) (Nat.succ_ne_self n), ⟨⟨_, c1⟩, c2⟩, fun b hb => ?_, q⟩
  have hle : s1.heap.objs.size ≤ b := by
    simp only [List.mem_cons, List.not_mem_nil, or_false] at hb
    rw [hn]
    rcases hb with rfl | rfl <;> omega
  exact I1.fpOk hle (I1.hok.fresh hle)
end
/-- a loop of n turns over any source -/
theorem for_it {J : It} {g : TG} {tb : TS} {D : Ends} {σ : L2.St} {H : Hp} (n : Nat) (Pv : Nat → L2.St → Hp → Prop) (h0 : Pv 0 σ H) (hgo : ∀ i σ H, i < n → Pv i σ H → J.go i H) (hst : ∀ σ H, Pv n σ H → J.stop n H)
    (hs : ∀ i σ H x H', i < n → Pv i σ H → J.yld i H x H' → g x σ H' fun σ2 H2 => tb { D with nx := Pv (i + 1), ct := Pv (i + 1), bk := D.nx } σ2 H2) (hd : ∀ σ H, Pv n σ H → D.nx σ H) :
    ∃ W : Nat → Nat → L2.St → Hp → Prop, (∃ m, W 0 m σ H) ∧ ∀ i m σ H, W i m σ H →
      (J.stop i H ∧ D.nx σ H) ∨ (J.go i H ∧ ∃ N : L2.St → Hp → Prop, (∀ σ' H', N σ' H' → ∃ m', m' < m ∧ W (i + 1) m' σ' H') ∧ ∀ x H', J.yld i H x H' → g x σ H' fun σ2 H2 => tb { D with nx := N, ct := N, bk := D.nx } σ2 H2) := by
  refine ⟨fun i m σ H => m = n - i ∧ i ≤ n ∧ Pv i σ H, ⟨n, by simp, Nat.zero_le _, h0⟩, ?_⟩
  rintro i m σ H ⟨rfl, hi, p⟩
  by_cases hlt : i < n
  · exact .inr ⟨hgo i σ H hlt p, Pv (i + 1), fun σ' H' p' => ⟨n - (i + 1), by omega, rfl, hlt, p'⟩, fun x H' y => hs i σ H x H' hlt p y⟩
  · have e : i = n := by omega
    subst e
    exact .inl ⟨hst σ H p, hd σ H p⟩
end LX
namespace TM
structure PS where
  nums : List Int
  found : List Int
  nest : List Int
def PS.pop (s : PS) (c : Nat) : List Int := if c = 124 ∧ 1 < s.nest.length then s.nest.dropLast else s.nest
def PS.here (s : PS) (c : Nat) : Int := (s.pop c).getLastD 0
structure PS.Ok (s : PS) : Prop where
  ne : s.nest ≠ []
  inb : ∀ n ∈ s.nest, 0 ≤ n ∧ n < (s.found.length : Int)
structure LS where
  floors : List Int
  pile : List (Int × Int)
  found : List Int
def topOf (p : List (Int × Int)) : Int × Int := p.getLastD (0, 0)
def LS.p1 (s : LS) (c : Nat) : List (Int × Int) :=
  if c = 124 ∧ 0 < (topOf s.pile).2 then s.pile.dropLast ++ [((topOf s.pile).1, (topOf s.pile).2 - 1)]
  else if c = 124 ∧ 1 < s.pile.length then s.pile.dropLast else s.pile
def flat (p : List (Int × Int)) : List Int := p.flatMap fun x => List.replicate (x.2.toNat + 1) x.1
structure Sim (s : PS) (l : LS) : Prop where
  fl : l.floors = s.found
  fo : l.found = s.nums
  ne : l.pile ≠ []
  nn : ∀ x ∈ l.pile, 0 ≤ x.2
  st : s.nest = flat l.pile
theorem split_last {α : Type} {l : List α} (h : l ≠ []) : ∃ p x, l = p ++ [x] := ⟨l.dropLast, l.getLast h, (List.dropLast_concat_getLast h).symm⟩
theorem lastD_snoc (p : List Int) (n d : Int) : (p ++ [n]).getLastD d = n := by simp
end TM
namespace TM
def next (p : Nat → Bool) : Nat → Nat → Option Nat
  | _, 0 => none
  | i, k + 1 => if p i = true then some i else next p (i + 1) k
/-- the last value of stretch m among the first i places -/
def lastV (f : Nat → Option Bool) (nm : Nat → Int) (m : Int) : Nat → Option Bool
  | 0 => none
  | i + 1 => if nm i = m ∧ (f i).isSome = true then f i else lastV f nm m i
def aheadV (f : Nat → Option Bool) (nm : Nat → Int) (ow : Int → Bool) (i : Nat) : Bool := (lastV f nm (nm i) i).getD (ow (nm i))
def figc (c : Nat) : Bool := decide (48 ≤ c) && decide (c ≤ 57)
def oddS (g : Int) : Bool := decide (¬ g % 2 = 0)

section
variable (cs : List Nat) (nums grds : List Int)
def nAt (i : Nat) : Int := nums.getD i 0
end

section
variable {cs : List Nat} {nums grds : List Int}
end
end TM
namespace LX
open PySem PySem.Spec PyProof.Rows L2
def Def (P : Program) (w : World) (K : PySem.W.Frag) (mg : Str → Option Value) (base : Heap) (x : Str) (k : Nat) (ps : List Str) (sp : Sp) : Prop :=
  ∃ f fd, FnOk P w K mg base CX0 k f fd ps sp ∧ mg x = some (.ref f) ∧ PySem.W.keepIn K (.ref f) = true ∧ Binds K fd ps []
theorem pe_def {X : Cx} {x : Str} {k : Nat} {ps : List Str} {sp : Sp} {p pos : Pos} {e : Expr} {es : List Expr} {t : TA} (D : Def X.prog X.w X.K X.mg X.base x k ps sp) (hr : Room k X.A) (ha : PA X (e :: es) t) (hg : Gl X x := by rfl)
    (hdb : (x == ("__debug__" : Str)) = false := by decide +kernel) (he : starEach (e :: es) X.env = (false, eval e X.env) :: starEach es X.env := by rfl) (hpl : (backTo pos (starEach es X.env)).any (·.1) = false := by rfl) :
    PE X (.Call (.Name x p) (e :: es) [] pos) (tCall sp [] E0 t) := by
  obtain ⟨f, fd, F, hm, hk, hb⟩ := D
  exact pe_call F hr hg hm hk hb .nil pass0 ha hdb he hpl
/-- a test that the reading decides -/
theorem tOfEq {A B : Prop} {b : Bool} (hb : b = true) (h : A) : if b = true then A else B := by rw [if_pos hb]; exact h
theorem fOfEq {A B : Prop} {b : Bool} (hb : b = false) (h : B) : if b = true then A else B := by rw [if_neg (by rw [hb]; exact Bool.false_ne_true)]; exact h
theorem bOf {A B : Prop} {b : Bool} (h1 : b = true → A) (h2 : b = false → B) : if b = true then A else B := by
  cases b
  · exact fOfEq rfl (h2 rfl)
  · exact tOfEq rfl (h1 rfl)
theorem Same.upd {H H' : Hp} {p : Addr} {o : HO} (e : Same H H') (h : H' p = Option.none) : Same H (upd H' p o) := fun b u q => by
  rw [upd_ne (ne_of_none (e b u q) h)]
  exact e b u q
theorem Same.upd0 {H : Hp} {p : Addr} {o : HO} (h : H p = Option.none) : Same H (L2.upd H p o) := Same.upd (L2.Same.refl H) h
theorem Same.updT {H H' : Hp} {p : Addr} {o : HO} (e : Same H H') (h : H p = Option.none) : Same H (L2.upd H' p o) := fun b u q => by
  rw [upd_ne (ne_of_none q h)]
  exact e b u q

def ch (c : Nat) : V := .str ⟨#[c]⟩
end LX
namespace LX
open PySem PySem.Spec PyProof.Rows L2
/-- the built-in names that the text leaves alone -/
structure Blt (mg : Str → Option Value) : Prop where
  len : mg "len" = none
  range : mg "range" = none
  list : mg "list" = none
  isinstance : mg "isinstance" = none
  str : mg "str" = none
  int : mg "int" = none
  bool : mg "bool" = none
  zip : mg "zip" = none
  enumerate : mg "enumerate" = none
  reversed : mg "reversed" = none
def spCell (K : PySem.W.Frag) : Sp := fun vs H Q _ => ∃ (a : Addr) (ns : List Int) (k : Int), vs = [.ref a, .int k] ∧ SqL K H a (ns.map V.int) ∧ 0 ≤ k ∧ Q (.int (ns.getD k.toNat 0)) H
def spLaw (K : PySem.W.Frag) : Sp := fun vs H Q _ => ∃ (a : Addr) (ns : List Int), vs = [.ref a] ∧ SqL K H a (ns.map V.int) ∧ ns.length ≤ 63 ∧ ∀ H', Q (.bl true) H'
/-- the law's head, from the law's promise -/
theorem walk_law {l : PySem.W.OpenLaw} {q : Program} {loose : List Str} {XP : (Str → Option Value) → Heap → Prop} {YP : World → Heap → Prop} {d : DefRec} {K : Params → PySem.W.Frag} {k : Nat} (hn : l.most = some 63) (hdf : d.params.defaults = []) (hr : Room k callerA)
    (hY : ∀ (w : World) (h : Heap), YP w h → (K w.params).In h)
    (F : ∀ (w : World) (mg : Str → Option Value) (fa : Addr) (h : Heap), (K w.params).In h → h.Ns mainGlobals mg → mg d.name = some (.ref fa) →
      ∃ fd : FuncData, (∀ (s : Shared) (u : Value), BindsTo s fd ⟨[u], []⟩ [("script", u)]) ∧ ∀ base : Heap, (K w.params).In base → base.Ns mainGlobals mg → FnOk l.prog w (K w.params) mg base CX0 k fa fd ["script"] (spLaw (K w.params))) :
    PySem.W.WalkO q loose XP YP l.row.toRowW d [] (fun f vs => PySem.call f vs) :=
  L2.walk_of (n := 63) (k := k) (x := "script") (CX := fun _ => CX0) (sp := fun w => spLaw (K w.params)) hn (by decide) hdf hr hY F (fun _ _ a ns hl _ hS => ⟨a, ns, rfl, hS, hl, fun _ => rfl⟩) fun _ _ _ _ _ z => z
end LX
namespace LX
open PySem PySem.Spec PyProof.Rows L2 TM
/-- a join point between two statements -/
theorem seq_mid {t u : TS} {D : Ends} {σ : L2.St} {H : Hp} (Mid : L2.St → Hp → Prop) (h1 : ∀ D' : Ends, D'.rt = D.rt → D'.bk = D.bk → D'.ct = D.ct → (∀ σ H, Mid σ H → D'.nx σ H) → t D' σ H) (h2 : ∀ σ H, Mid σ H → u D σ H) : tSeq t u D σ H :=
  h1 { D with nx := u D } rfl rfl rfl h2
abbrev vI (l : List Int) : List V := l.map V.int
theorem ints_snoc (l : List Int) (n : Int) : vI l ++ [V.int n] = vI (l ++ [n]) := by simp [vI]
theorem ints_len (l : List Int) : (vI l).length = l.length := by simp [vI]
theorem ints_at {l : List Int} {n : Int} (h0 : 0 ≤ n) (h1 : n < (l.length : Int)) : atI (vI l) n = some (V.int (l.getD n.toNat 0)) := by
  obtain ⟨k, rfl⟩ := Int.eq_ofNat_of_zero_le h0
  have hk : k < l.length := by omega
  rw [Int.toNat_natCast]
  refine atI_nat ?_
  rw [List.getElem?_map, List.getElem?_eq_getElem hk, List.getD_eq_getElem?_getD, List.getElem?_eq_getElem hk]
  rfl
theorem ints_last {l : List Int} (h : l ≠ []) : atI (vI l) (-1) = some (V.int (l.getLastD 0)) := by
  obtain ⟨p, x, rfl⟩ := split_last h
  rw [← ints_snoc, atI_last, lastD_snoc]
theorem ints_get {l : List Int} {i : Nat} {x : V} (h : (vI l)[i]? = some x) : ∃ n, l[i]? = some n ∧ x = V.int n := by
  rw [List.getElem?_map] at h
  cases e : l[i]? with
  | none => rw [e] at h; cases h
  | some n => rw [e] at h; exact ⟨n, rfl, (Option.some.inj h).symm⟩
theorem take_snoc {α : Type} {l : List α} {i : Nat} {c : α} (h : l[i]? = some c) : l.take (i + 1) = l.take i ++ [c] := by
  rw [List.take_add_one, h]
  rfl
theorem le_line {n : Nat} (h : n ≤ 1000) : n ≤ sizeLine := Nat.le_of_lt (small1000 h)
def cps (z : Str) : List Nat := z.cps.toList
def spPick (K : PySem.W.Frag) : Sp := fun vs H Q _ => ∃ (a : Addr) (ns : List Int) (k : Int), vs = [.ref a, .int k] ∧ SqL K H a (ns.map V.int) ∧ 0 ≤ k ∧ ∀ n, Q (.int n) H
def spWhole : Sp := fun vs H Q _ => ∃ n : Int, vs = [.int n] ∧ Q (.bl true) H
def spMix : Sp := fun vs H Q _ => ∃ a b : Int, vs = [.int a, .int b] ∧ ∀ n, Q (.int n) H
def low (z : Str) : Prop := ∀ c ∈ cps z, c < 127
def spSize : Sp := fun vs H Q _ => ∃ a : Int, vs = [.int a] ∧ ∀ n : Int, 0 ≤ n → n ≤ 60 → Q (.int n) H
end LX
namespace LX
open PySem PySem.Spec PyProof.Rows L2 TM
theorem kit_int_bool (K : PySem.W.Frag) : PySem.W.kitOne K (.type "int") (.type "bool") = some false := by
  unfold PySem.W.kitOne PySem.W.kitCls
  first | rfl | (with_unfolding_all rfl)
@[irreducible] def QS (X : Cx) (st : Stmt) (t : TS) : Prop := PS X st t
@[irreducible] def QSs (X : Cx) (sts : List Stmt) (t : TS) : Prop := PSs X sts t
theorem QS.of {X : Cx} {st : Stmt} {t : TS} (h : PS X st t) : QS X st t := by unfold QS; exact h
theorem QSs.out {X : Cx} {sts : List Stmt} {t : TS} (h : QSs X sts t) : PSs X sts t := by unfold QSs at h; exact h
def PileAt (H : Hp) (as : List Addr) (ps : List (Int × Int)) : Prop := Paired (fun (a : Addr) (x : Int × Int) => H a = some (.lst [.int x.1, .int x.2])) as ps
theorem PileAt.len {H : Hp} {as : List Addr} {ps : List (Int × Int)} (h : PileAt H as ps) : as.length = ps.length := Paired.length h
theorem PileAt.keep {H H' : Hp} {as : List Addr} {ps : List (Int × Int)} (h : PileAt H as ps) (k : ∀ a ∈ as, H' a = H a) : PileAt H' as ps := by
  induction h with
  | nil => exact .nil
  | cons r t ih => exact .cons (by rw [k _ List.mem_cons_self]; exact r) (ih fun a ha => k a (List.mem_cons_of_mem _ ha))
theorem PileAt.snoc {H : Hp} {as : List Addr} {ps : List (Int × Int)} {a : Addr} {x : Int × Int} (h : PileAt H as ps) (e : H a = some (.lst [.int x.1, .int x.2])) : PileAt H (as ++ [a]) (ps ++ [x]) := by
  induction h with
  | nil => exact .cons e .nil
  | cons r t ih => exact .cons r ih
theorem PileAt.last {H : Hp} {as : List Addr} {ps : List (Int × Int)} (h : PileAt H as ps) (ne : ps ≠ []) : ∃ bs a qs x, as = bs ++ [a] ∧ ps = qs ++ [x] ∧ PileAt H bs qs ∧ H a = some (.lst [.int x.1, .int x.2]) := by
  induction h with
  | nil => exact absurd rfl ne
  | @cons a x as ps r t ih =>
    cases t with
    | nil => exact ⟨[], a, [], x, rfl, rfl, .nil, r⟩
    | cons r' t' =>
      obtain ⟨bs, a', qs, x', e1, e2, h1, h2⟩ := ih (by simp)
      exact ⟨a :: bs, a', x :: qs, x', by rw [e1]; rfl, by rw [e2]; rfl, .cons r h1, h2⟩
theorem PileAt.there {H : Hp} {as : List Addr} {ps : List (Int × Int)} (h : PileAt H as ps) : ∀ a ∈ as, ∃ o, H a = some o := by
  induction h with
  | nil => intro a ha; cases ha
  | cons r t ih =>
    intro a ha
    rcases List.mem_cons.mp ha with rfl | ha
    · exact ⟨_, r⟩
    · exact ih a ha
end LX
namespace LX
open PySem PySem.Spec PyProof.Rows L2 TM
theorem getD_set {l : List Bool} {j k : Nat} {b : Bool} (hj : j < l.length) : (l.set j b).getD k false = if k = j then b else l.getD k false := by
  rw [List.getD_eq_getElem?_getD, List.getElem?_set]
  by_cases h : j = k
  · subst h; rw [if_pos rfl, if_pos hj, if_pos rfl]; rfl
  · rw [if_neg h, if_neg (fun z => h z.symm), List.getD_eq_getElem?_getD]
theorem range_snoc {α : Type} (f : Nat → α) (i : Nat) : (List.range i).map f ++ [f i] = (List.range (i + 1)).map f := by rw [List.range_succ, List.map_append]; rfl
def owL (l : List Bool) (m : Int) : Bool := l.getD m.toNat false
/-- the latest sides, after i places -/
def LatOk (f : Nat → Option Bool) (nm : Nat → Int) (ow : List Bool) (i : Nat) (lat : List Bool) : Prop :=
  lat.length = ow.length ∧ ∀ k : Nat, k < ow.length → lat.getD k false = (lastV f nm (k : Int) i).getD (owL ow k)
theorem LatOk.zero (f : Nat → Option Bool) (nm : Nat → Int) (ow : List Bool) : LatOk f nm ow 0 ow := ⟨rfl, fun k _ => by unfold lastV owL; rw [Int.toNat_natCast]; rfl⟩
theorem LatOk.read {f : Nat → Option Bool} {nm : Nat → Int} {ow lat : List Bool} {i : Nat} (h : LatOk f nm ow i lat) (h0 : 0 ≤ nm i) (h1 : nm i < (ow.length : Int)) : lat.getD (nm i).toNat false = aheadV f nm (owL ow) i := by
  have := h.2 (nm i).toNat (by omega)
  unfold aheadV
  rw [this]
  have e : ((nm i).toNat : Int) = nm i := by omega
  rw [e]
theorem LatOk.put {f : Nat → Option Bool} {nm : Nat → Int} {ow lat : List Bool} {i : Nat} {b : Bool} (h : LatOk f nm ow i lat) (hn : f i = some b) (h0 : 0 ≤ nm i) (h1 : nm i < (ow.length : Int)) : LatOk f nm ow (i + 1) (lat.set (nm i).toNat b) := ⟨by rw [List.length_set]; exact h.1, fun k hk => by
  rw [getD_set (by rw [h.1]; omega)]
  unfold lastV
  by_cases e : k = (nm i).toNat
  · rw [if_pos e, if_pos ⟨by omega, by rw [hn]; rfl⟩, hn]
    first | done | rfl
  · rw [if_neg e, if_neg (fun z => e (by omega)), h.2 k hk]⟩
structure Told (z : Str) (b : Int) (nums grds : List Int) : Prop where
  ln : nums.length = z.length
  inb : ∀ i, i < z.length → 0 ≤ nAt nums i ∧ nAt nums i < (grds.length : Int)
  gl : grds.length ≤ 1 + z.length
def lv (c : Nat) (b : Bool) (g : Int) : Int := if figc c = true then (if b = oddS g then g else g + 1) + (if b = oddS g then g else g + 1) % 2 else (if b = oddS g then g else g + 1)
end LX
namespace LX
open PySem PySem.Spec PyProof.Rows L2 TM
/-- the tuple told: the stretch of each sign, the ground of each stretch -/
structure ToldAt (H : Hp) (p : Addr) (nums grds : List Int) : Prop where
  ex : ∃ q r : Addr, H p = some (.tup [.ref q, .ref r]) ∧ H q = some (.lst (vI nums)) ∧ H r = some (.lst (vI grds))
theorem ToldAt.same {H H' : Hp} {p : Addr} {nums grds : List Int} (h : ToldAt H p nums grds) (s : Same H H') : ToldAt H' p nums grds := by
  obtain ⟨q, r, a, b, c⟩ := h.ex
  exact ⟨q, r, s _ _ a, s _ _ b, s _ _ c⟩
end LX
namespace LX
open PySem PySem.Spec PyProof.Rows L2
section
variable {X : Cx}
theorem call_range1 : CallR X (.type "range") (fun xs H Q => ∃ j : Int, xs = [.int j] ∧ ∀ p, H p = none → Q (.ref p) (upd H p (.rng 0 j))) := by
  intro pins s σ H xs us Q I r h
  obtain ⟨j, rfl, q⟩ := h
  obtain ⟨u, rfl, t, rfl⟩ := vals1 r
  refine call_range_1 ?_
  exact ⟨.ref s.heap.objs.size, _, I.laid (t' := _) (fun b o e => Heap.get?_push_of_some _ e) (Nat.le_refl _) (show ObjOk X.prog X.w _ _ _ (.rng 0 j) from ⟨_, _, _, Heap.get?_push_size _ rfl⟩), rfl, q _ (I.hok.fresh (Nat.le_refl _))⟩
def iota (lo : Int) (n : Nat) : List Int := (List.range n).map fun i : Nat => lo + (i : Int)
theorem iota_len (lo : Int) (n : Nat) : (iota lo n).length = n := by simp [iota]
theorem vals_of_get : ∀ {ns : List Int} {vs : List Value}, vs.length = ns.length → (∀ (i : Nat) v, vs[i]? = some v → ∃ n t, ns[i]? = some n ∧ v = Value.int n t) → Vals (ns.map V.int) vs
  | [], [], _, _ => .nil
  | n :: ns, v :: vs, hl, h => by
    obtain ⟨m, t, e, e'⟩ := h 0 v rfl
    cases e
    refine .cons ⟨t, e'⟩ (vals_of_get (by simpa using hl) fun i u hu => ?_)
    exact h (i + 1) u hu
  | [], _ :: _, hl, _ => by simp at hl
  | _ :: _, [], hl, _ => by simp at hl
theorem call_list_rng (hc : X.calm = true) : CallR X (.type "list") (fun xs H Q => ∃ (p : Addr) (lo hi : Int) (n : Nat), xs = [.ref p] ∧ H p = some (.rng lo hi) ∧ -(2 ^ 62) ≤ lo ∧ hi < 2 ^ 62 ∧ hi = lo + n ∧ n ≤ 1000 ∧ ∀ l, H l = none → Q (.ref l) (upd H l (.lst ((iota lo n).map V.int)))) := by
  intro pins s σ H xs us Q I r h
  obtain ⟨p, lo, hi, n, rfl, hp, h1, h2, h3, h4, q⟩ := h
  obtain ⟨u, rfl, rx⟩ := vals1 r
  cases rx
  obtain ⟨t, u, v, hg⟩ := I.hok _ _ hp
  refine call_list_range (n := n) (I.ok.hd hc) hg (small_one h1 (by omega) (by omega) h2) (by rw [rangeSize_one]; split <;> omega) (by omega) fun h' tk acc' c' kp e hacc => ?_
  have hv : Vals ((iota lo n).map V.int) acc'.toList := vals_of_get (by rw [Array.length_toList, hacc.1, iota_len]) fun i v hv => by
    have hv' : acc'[i]? = some v := by rw [← hv]; simp
    obtain ⟨tk, e⟩ := hacc.2 i v hv'
    have hi : i < n := by
      have := (Array.getElem?_eq_some_iff.mp hv').1
      rw [hacc.1] at this; exact this
    refine ⟨lo + (i : Int), tk, by simp [iota, hi], by simpa using e⟩
  refine ⟨.ref s.heap.objs.size, _, I.laid (t' := tk) kp (Nat.le_refl _) (show ObjOk X.prog X.w _ h' _ (.lst ((iota lo n).map V.int)) from ⟨?_, acc'.toList, c', hv, by simpa using e⟩), rfl, q _ (I.hok.fresh (Nat.le_refl _))⟩
  rw [List.length_map, iota_len]
  exact Nat.le_of_lt (small1000 h4)
theorem Inv.listI {pins : List (Addr × Obj)} {σ : L2.St} {H : Hp} {s : Shared} {p : Addr} {ns : List Int} (I : L2.Inv X pins σ H s) (h : SqL X.K H p (ns.map V.int)) : ∃ its, IntsAre its ns ∧ s.heap.IsList p its.toArray ∧ its.length = ns.length := by
  obtain ⟨its, r, pl, hz⟩ := I.list h
  have e := r.length
  rw [List.length_map] at e
  exact ⟨its, intsAre_of r, pl.isList, e.symm⟩
def rIndex (K : PySem.W.Frag) : V → List V → Hp → VK → Prop := fun x vs H Q => ∃ (p : Addr) (ns : List Int) (k : Int), x = .ref p ∧ vs = [.int k] ∧ SqL K H p (ns.map V.int) ∧ k ∈ ns ∧ ns.length ≤ 1000 ∧ Q (.int (ns.idxOf k : Nat)) H
theorem mt_index : MtR X "list.index" (rIndex X.K) := by
  intro pins s σ H x vs v us Q I rx rv h
  obtain ⟨p, ns, k, rfl, rfl, hp, hk, hn, q⟩ := h
  cases rx
  obtain ⟨u, rfl, t, rfl⟩ := vals1 rv
  obtain ⟨its, hi, hl, e⟩ := Inv.listI I hp
  obtain ⟨⟨cls, dd, data, sl⟩, ho, hc, n, hd⟩ := id hl
  simp only at hc hd
  subst hc hd
  have hj : ns.idxOf k < ns.length := List.idxOf_lt_length_iff.mpr hk
  refine call_meets PySem.F.slot_list_index ⟨_, ho, rfl⟩ PySem.F.entry_list_index (PySem.F.args_list_index_2 _ _)
    (SeqAt.list_indexAt p its.toArray n dd sl (.int k t) (isInt k) (ns.idxOf k) (by simpa [e] using hj) (by omega) ?_ ?_) ⟨ho, fun y hy => (eq_isInt k t hi y (by simpa using hy)).at _ _, ?_⟩
  · show isInt k its[ns.idxOf k] = true
    rw [isInt_at k hi _ (by omega) hj]
    simpa using List.getElem_idxOf hj
  · intro j hjs hlt
    show isInt k its[j] = false
    rw [isInt_at k hi j (by simpa using hjs) (by omega)]
    exact ne_of_lt_idxOf hlt _
  · exact ⟨.int (ns.idxOf k : Nat), H, I.tok _, ⟨_, rfl⟩, q⟩
end
end LX
namespace TM
section
variable {α β : Type}
def blk (q : α → Bool) (F : List α → List α) : List α → List α → List α
  | acc, [] => F acc
  | acc, p :: ps => bif q p then blk q F (acc ++ [p]) ps else F acc ++ p :: blk q F [] ps
def blocks (q : α → Bool) (F : List α → List α) (ps : List α) : List α := blk q F [] ps
theorem blk_run {q : α → Bool} {F : List α → List α} : ∀ {xs : List α} (acc ys : List α), (∀ x ∈ xs, q x = true) → blk q F acc (xs ++ ys) = blk q F (acc ++ xs) ys
  | [], acc, ys, _ => by simp
  | x :: xs, acc, ys, h => by
    have h1 := h x (by simp)
    have e : blk q F acc (x :: (xs ++ ys)) = bif q x then blk q F (acc ++ [x]) (xs ++ ys) else F acc ++ x :: blk q F [] (xs ++ ys) := by rw [blk]
    show blk q F acc (x :: (xs ++ ys)) = _
    rw [e, h1, cond_true, blk_run (acc ++ [x]) ys (fun y hy => h y (by simp [hy]))]
    simp
theorem blk_cut {q : α → Bool} {F : List α → List α} {p : α} (hp : q p = false) : ∀ (xs acc ys : List α), blk q F acc (xs ++ p :: ys) = blk q F acc xs ++ p :: blk q F [] ys
  | [], acc, ys => by
    have e : blk q F acc (p :: ys) = bif q p then blk q F (acc ++ [p]) ys else F acc ++ p :: blk q F [] ys := by rw [blk]
    show blk q F acc (p :: ys) = _
    rw [e, hp, cond_false, blk]
  | x :: xs, acc, ys => by
    show blk q F acc (x :: (xs ++ p :: ys)) = _
    rw [blk, blk]
    cases q x with
    | true => simp only [cond_true]; exact blk_cut hp xs _ _
    | false => simp only [cond_false]; rw [blk_cut hp xs [] ys]; simp
theorem blocks_all {q : α → Bool} {F : List α → List α} {xs : List α} (h : ∀ x ∈ xs, q x = true) : blocks q F xs = F xs := by
  have := blk_run (F := F) [] [] h
  simp only [List.append_nil, List.nil_append] at this
  unfold blocks
  rw [this, blk]
theorem blocks_cut {q : α → Bool} {F : List α → List α} {p : α} (hp : q p = false) (xs ys : List α) : blocks q F (xs ++ p :: ys) = blocks q F xs ++ p :: blocks q F ys := blk_cut hp xs [] ys
theorem blocks_step {q : α → Bool} {F : List α → List α} {p : α} {xs : List α} (h : ∀ x ∈ xs, q x = true) (hp : q p = false) (ys : List α) : blocks q F (xs ++ p :: ys) = F xs ++ p :: blocks q F ys := by
  rw [blocks_cut hp, blocks_all h]
/-- each list is a row that keeps q, or such a row, one that does not, and a shorter list -/
theorem dec_ind (q : α → Bool) {m : List α → Prop} (h1 : ∀ xs, (∀ x ∈ xs, q x = true) → m xs) (h2 : ∀ xs p ys, (∀ x ∈ xs, q x = true) → q p = false → m ys → m (xs ++ p :: ys)) : ∀ ps, m ps := by
  intro ps
  have key : ∀ (ps acc : List α), (∀ x ∈ acc, q x = true) → m (acc ++ ps) := by
    intro ps
    induction ps with
    | nil => intro acc h; rw [List.append_nil]; exact h1 acc h
    | cons p ps ih =>
      intro acc h
      cases hp : q p with
      | true =>
        have := ih (acc ++ [p]) (by
          intro x hx
          rcases List.mem_append.mp hx with hx | hx
          · exact h x hx
          · rw [List.mem_singleton.mp hx]; exact hp)
        rw [List.append_assoc] at this
        exact this
      | false => exact h2 acc p ps h hp (ih [] (by simp))
  exact key ps [] (by simp)
/-- the last one that does not keep q, if there is one -/
theorem last_cut (q : α → Bool) : ∀ xs : List α, (∀ x ∈ xs, q x = true) ∨ ∃ as p bs, xs = as ++ p :: bs ∧ q p = false ∧ ∀ x ∈ bs, q x = true
  | [] => .inl (by simp)
  | x :: xs => by
    rcases last_cut q xs with h | ⟨as, p, bs, e, hp, h⟩
    · cases hx : q x with
      | true =>
        exact .inl (by
          intro y hy
          rcases List.mem_cons.mp hy with rfl | hy
          · exact hx
          · exact h y hy)
      | false => exact .inr ⟨[], x, xs, rfl, hx, h⟩
    · exact .inr ⟨x :: as, p, bs, by rw [e]; rfl, hp, h⟩
theorem first_cut (q : α → Bool) : ∀ xs : List α, (∀ x ∈ xs, q x = true) ∨ ∃ as p bs, xs = as ++ p :: bs ∧ q p = false ∧ ∀ x ∈ as, q x = true
  | [] => .inl (by simp)
  | x :: xs => by
    cases hx : q x with
    | false => exact .inr ⟨[], x, xs, rfl, hx, by simp⟩
    | true =>
      rcases first_cut q xs with h | ⟨as, p, bs, e, hp, h⟩
      · exact .inl (by
          intro y hy
          rcases List.mem_cons.mp hy with rfl | hy
          · exact hx
          · exact h y hy)
      · exact .inr ⟨x :: as, p, bs, by rw [e]; rfl, hp, by
          intro y hy
          rcases List.mem_cons.mp hy with rfl | hy
          · exact hx
          · exact h y hy⟩
theorem blocks_perm {q : α → Bool} {F : List α → List α} (hF : ∀ xs, (F xs).Perm xs) : ∀ ps, (blocks q F ps).Perm ps := by
  refine dec_ind q (fun xs h => ?_) (fun xs p ys h hp ih => ?_)
  · rw [blocks_all h]; exact hF xs
  · rw [blocks_step h hp]; exact (hF xs).append (ih.cons p)
theorem blocks_congr {q : α → Bool} {F G : List α → List α} : ∀ ps, (∀ xs, (∀ x ∈ xs, q x = true) → (∀ x ∈ xs, x ∈ ps) → F xs = G xs) → blocks q F ps = blocks q G ps := by
  refine dec_ind q (fun xs h e => ?_) (fun xs p ys h hp ih e => ?_)
  · rw [blocks_all h, blocks_all h]; exact e xs h (fun _ hx => hx)
  · rw [blocks_step h hp, blocks_step h hp, e xs h (fun _ hx => by simp [hx]), ih (fun zs hz hz' => e zs hz (fun x hx => by simp [hz' x hx]))]
def ord (lv : α → Int) : Nat → Int → List α → List α
  | 0, _, ps => ps
  | f + 1, l, ps => blocks (fun p => decide (l < lv p)) (fun xs => (ord lv f (l + 1) xs).reverse) ps
theorem ord_perm {lv : α → Int} : ∀ (f : Nat) (l : Int) (ps : List α), (ord lv f l ps).Perm ps
  | 0, _, ps => List.Perm.refl ps
  | f + 1, l, ps => blocks_perm (fun xs => (List.reverse_perm _).trans (ord_perm f (l + 1) xs)) ps
theorem ord_nil {lv : α → Int} (f : Nat) (l : Int) : ord lv f l [] = [] := (ord_perm f l []).eq_nil
theorem ord_cut {lv : α → Int} {p : α} {l : Int} (hp : lv p ≤ l) : ∀ (f : Nat) (xs ys : List α), ord lv f l (xs ++ p :: ys) = ord lv f l xs ++ p :: ord lv f l ys
  | 0, _, _ => rfl
  | f + 1, xs, ys => blocks_cut (by simp; omega) xs ys
theorem ord_step {lv : α → Int} {l : Int} {f : Nat} {xs : List α} (h : ∀ x ∈ xs, l < lv x) : ord lv (f + 1) l xs = (ord lv f (l + 1) xs).reverse := blocks_all (fun x hx => by simp [h x hx])
theorem ord_low {lv : α → Int} : ∀ (f : Nat) (l : Int) (ps : List α), (∀ p ∈ ps, lv p ≤ l) → ord lv f l ps = ps
  | 0, _, _, _ => rfl
  | f + 1, l, [], _ => ord_nil _ _
  | f + 1, l, p :: ps, h => by
    have := ord_cut (h p (by simp)) (f + 1) [] ps
    rw [List.nil_append, ord_nil, List.nil_append] at this
    rw [this, ord_low (f + 1) l ps (fun x hx => h x (by simp [hx]))]
/-- one turn more changes nothing where no level is left -/
theorem ord_more {lv : α → Int} : ∀ (f : Nat) (l : Int) (ps : List α), (∀ p ∈ ps, lv p ≤ l + f) → ord lv (f + 1) l ps = ord lv f l ps
  | 0, l, ps, h => ord_low 1 l ps (fun p hp => by have := h p hp; simpa using this)
  | f + 1, l, ps, h => by
    show blocks _ _ ps = blocks _ _ ps
    refine blocks_congr ps (fun xs _ hx => ?_)
    show (ord lv (f + 1) (l + 1) xs).reverse = (ord lv f (l + 1) xs).reverse
    rw [ord_more f (l + 1) xs (fun p hp => by have := h p (hx p hp); omega)]
theorem ord_fuel {lv : α → Int} {l : Int} {ps : List α} {f : Nat} (h : ∀ p ∈ ps, lv p ≤ l + f) : ∀ g, f ≤ g → ord lv g l ps = ord lv f l ps := by
  intro g hg
  induction g with
  | zero => rw [Nat.le_zero.mp hg]
  | succ g ih =>
    rcases Nat.lt_or_ge g f with q | q
    · have : g + 1 = f := by omega
      rw [this]
    · rw [ord_more g l ps (fun p hp => by have := h p hp; omega), ih q]
def turn (lv : α → Int) (L : Int) (ps : List α) : List α := blocks (fun p => decide (L ≤ lv p)) List.reverse ps
def turns (lv : α → Int) : Nat → Int → List α → List α
  | 0, _, ps => ps
  | f + 1, l, ps => turn lv (l + 1) (turns lv f (l + 1) ps)
theorem turn_ord {lv : α → Int} {f : Nat} {l : Int} : ∀ ps, turn lv (l + 1) (ord lv f (l + 1) ps) = ord lv (f + 1) l ps := by
  have hq : (fun p => decide (l + 1 ≤ lv p)) = fun p => decide (l < lv p) := by funext p; exact decide_eq_decide.mpr (by omega)
  unfold turn
  rw [hq]
  have ho : ∀ ps, ord lv (f + 1) l ps = blocks (fun p => decide (l < lv p)) (fun xs => (ord lv f (l + 1) xs).reverse) ps := fun _ => rfl
  refine dec_ind (fun p => decide (l < lv p)) (fun xs h => ?_) (fun xs p ys h hp ih => ?_)
  · rw [ho, blocks_all (q := fun p => decide (l < lv p)) h, blocks_all (q := fun p => decide (l < lv p)) (fun x hx => h x ((ord_perm f (l + 1) xs).mem_iff.mp hx))]
  · have hp' : lv p ≤ l + 1 := by have := of_decide_eq_false hp; omega
    rw [ho, ord_cut hp', blocks_step (q := fun p => decide (l < lv p)) h hp, blocks_step (q := fun p => decide (l < lv p)) (fun x hx => h x ((ord_perm f (l + 1) xs).mem_iff.mp hx)) hp, ih, ho]
/-- the block in which a row of neighbours stands that keep q -/
theorem blocks_mid {q : α → Bool} {F : List α → List α} (hF : ∀ xs, (F xs).Perm xs) {ms : List α} (hm : ∀ x ∈ ms, q x = true) (xs ys : List α) :
    ∃ U x1 x2 y1 y2 W, xs = x1 ++ x2 ∧ ys = y1 ++ y2 ∧ (∀ x ∈ x2, q x = true) ∧ (∀ x ∈ y1, q x = true) ∧ blocks q F (xs ++ (ms ++ ys)) = U ++ (F (x2 ++ (ms ++ y1)) ++ W) ∧ U.Perm x1 ∧ W.Perm y2
      ∧ (x1 = [] ∨ ∃ z p, x1 = z ++ [p] ∧ q p = false) ∧ (y2 = [] ∨ ∃ p z, y2 = p :: z ∧ q p = false) := by
  have hb : ∃ y1 y2 W, ys = y1 ++ y2 ∧ (∀ x ∈ y1, q x = true) ∧ W.Perm y2 ∧ (y2 = [] ∨ ∃ p z, y2 = p :: z ∧ q p = false) ∧ ∀ zs, (∀ x ∈ zs, q x = true) → blocks q F (zs ++ (ms ++ ys)) = F (zs ++ (ms ++ y1)) ++ W := by
    rcases first_cut q ys with h | ⟨y1, p, y2, rfl, hp, h⟩
    · refine ⟨ys, [], [], by simp, h, List.Perm.refl _, .inl rfl, fun zs hz => ?_⟩
      rw [blocks_all, List.append_nil]
      intro x hx
      rcases List.mem_append.mp hx with hx | hx
      · exact hz x hx
      · rcases List.mem_append.mp hx with hx | hx
        · exact hm x hx
        · exact h x hx
    · refine ⟨y1, p :: y2, p :: blocks q F y2, rfl, h, (blocks_perm hF y2).cons p, .inr ⟨p, y2, rfl, hp⟩, fun zs hz => ?_⟩
      have e : zs ++ (ms ++ (y1 ++ p :: y2)) = (zs ++ (ms ++ y1)) ++ p :: y2 := by simp
      rw [e, blocks_step _ hp]
      intro x hx
      rcases List.mem_append.mp hx with hx | hx
      · exact hz x hx
      · rcases List.mem_append.mp hx with hx | hx
        · exact hm x hx
        · exact h x hx
  obtain ⟨y1, y2, W, ey, hy, hW, hy2, hz⟩ := hb
  rcases last_cut q xs with h | ⟨x1, p, x2, rfl, hp, h⟩
  · exact ⟨[], [], xs, y1, y2, W, by simp, ey, h, hy, by rw [hz xs h]; simp, List.Perm.refl _, hW, .inl rfl, hy2⟩
  · refine ⟨blocks q F x1 ++ [p], x1 ++ [p], x2, y1, y2, W, by simp, ey, h, hy, ?_, (blocks_perm hF x1).append_right [p], hW, .inr ⟨x1, p, rfl, hp⟩, hy2⟩
    have e : x1 ++ p :: x2 ++ (ms ++ ys) = x1 ++ p :: (x2 ++ (ms ++ ys)) := by simp
    rw [e, blocks_cut hp, hz x2 h]
    simp
theorem revPerm {lv : α → Int} (f : Nat) (l : Int) (xs : List α) : ((ord lv f l xs).reverse).Perm xs := (List.reverse_perm _).trans (ord_perm f l xs)
/-- two neighbours of one level stay neighbours, as written where the level is even -/
theorem ord_pair {lv : α → Int} {a b : α} (hab : lv a = lv b) : ∀ (f : Nat) (l : Int) (xs ys : List α), l ≤ lv a → lv a ≤ l + f →
    ∃ xs' ys', ord lv f l (xs ++ ([a, b] ++ ys)) = xs' ++ ((if (lv a - l) % 2 = 0 then [a, b] else [b, a]) ++ ys')
  | 0, l, xs, ys, h1, h2 => ⟨xs, ys, by
      have : lv a - l = 0 := by simp at h2; omega
      rw [this]; simp [ord]⟩
  | f + 1, l, xs, ys, h1, h2 => by
    by_cases r : lv a ≤ l
    · have e : lv a - l = 0 := by omega
      refine ⟨ord lv (f + 1) l xs, ord lv (f + 1) l ys, ?_⟩
      have e1 : xs ++ ([a, b] ++ ys) = xs ++ a :: b :: ys := by simp
      have := ord_cut (lv := lv) (p := b) (l := l) (by omega) (f + 1) [] ys
      rw [List.nil_append, ord_nil, List.nil_append] at this
      rw [e1, ord_cut r, e, this]
      simp
    · obtain ⟨U, x1, x2, y1, y2, W, ex, ey, hx, hy, e, _, _, _, _⟩ := blocks_mid (q := fun p => decide (l < lv p)) (F := fun xs => (ord lv f (l + 1) xs).reverse) (revPerm f (l + 1)) (ms := [a, b]) (by
        intro x hx
        rcases List.mem_cons.mp hx with rfl | hx
        · simp; omega
        · rw [List.mem_singleton.mp hx]; simp; omega) xs ys
      obtain ⟨u, v, e'⟩ := ord_pair hab f (l + 1) x2 y1 (by omega) (by omega)
      refine ⟨U ++ v.reverse, u.reverse ++ W, e.trans ?_⟩
      rw [e']
      by_cases s : (lv a - l) % 2 = 0
      · rw [if_pos s, if_neg (by omega)]; simp
      · rw [if_neg s, if_pos (by omega)]; simp
end
end TM
namespace LX
open PySem PySem.Spec PyProof.Rows L2 TM
/-- more built-in names that the text leaves alone -/
structure BltB (mg : Str → Option Value) : Prop where
  min : mg "min" = none
  max : mg "max" = none
  sorted : mg "sorted" = none
  all : mg "all" = none
  set : mg "set" = none
  tuple : mg "tuple" = none
  any : mg "any" = none
  sum : mg "sum" = none
/-- a row as the law draws it -/
structure RowOk (row : List Int) : Prop where
  len : row.length ≤ 60
  lo : ∀ x ∈ row, 0 ≤ x
  hi : ∀ x ∈ row, x ≤ 9
def spRow (K : PySem.W.Frag) : Sp := fun vs H Q _ => ∃ (a : Addr) (ns : List Int) (st n way : Int), vs = [.ref a, .int st, .int n, .int way] ∧ SqL K H a (ns.map V.int) ∧ 0 ≤ st ∧ 0 ≤ n ∧ n ≤ 60 ∧
  ∀ (row : List Int) (p : Addr) (H' : Hp), RowOk row → (row.length : Int) = n → Same H H' → H p = none → H' p = some (.lst (vI row)) → Q (.ref p) H'
abbrev vN (l : List Nat) : List V := l.map fun n : Nat => V.int (n : Int)
theorem vN_vI (l : List Nat) : vN l = vI (l.map fun n : Nat => (n : Int)) := by simp [vN, vI]
theorem vN_len (l : List Nat) : (vN l).length = l.length := by simp [vN]
theorem vN_snoc (l : List Nat) (n : Nat) : vN l ++ [V.int (n : Int)] = vN (l ++ [n]) := by simp [vN]
theorem vN_app (l m : List Nat) : vN l ++ vN m = vN (l ++ m) := by simp [vN]
theorem vN_rev (l : List Nat) : (vN l).reverse = vN l.reverse := by simp [vN]
theorem vN_at {l : List Nat} {i : Nat} (h : i < l.length) : atI (vN l) (i : Int) = some (V.int ((l[i] : Nat) : Int)) := by
  refine atI_nat ?_
  rw [List.getElem?_map, List.getElem?_eq_getElem h]
  rfl
theorem vN_cut (l : List Nat) (i j : Nat) : cutV (vN l) (some (i : Int)) (some (j : Int)) = vN ((l.drop (min i l.length)).take (min j l.length - min i l.length)) := by
  unfold cutV
  rw [HT.sIx_nat, HT.sIx_nat, vN_len]
  show ((l.map _).drop _).take _ = _
  rw [← List.map_drop, ← List.map_take]
def lvl (row : List Int) (p : Nat) : Int := row.getD p 0
theorem lvl_le {row : List Int} (h : RowOk row) (p : Nat) : lvl row p ≤ 9 := by
  unfold lvl
  rw [List.getD_eq_getElem?_getD]
  cases e : row[p]? with
  | none => simp
  | some x => exact h.hi x (List.mem_of_getElem? e)
theorem lvl_ge {row : List Int} (h : RowOk row) (p : Nat) : 0 ≤ lvl row p := by
  unfold lvl
  rw [List.getD_eq_getElem?_getD]
  cases e : row[p]? with
  | none => simp
  | some x => exact h.lo x (List.mem_of_getElem? e)
theorem lvl_at {row : List Int} {p : Nat} (h : p < row.length) : atI (vI row) (p : Int) = some (V.int (lvl row p)) := by
  have := ints_at (l := row) (n := (p : Int)) (by omega) (by omega)
  rw [Int.toNat_natCast] at this
  exact this
/-- the law's own order, at a level that leaves n turns -/
def spOrdN (K : PySem.W.Frag) : Nat → Sp
  | 0 => fun _ _ _ _ => False
  | n + 1 => fun vs H Q _ => ∃ (r q : Addr) (row : List Int) (pl : List Nat) (l : Int), vs = [.ref r, .ref q, .int l] ∧ SqL K H r (vI row) ∧ SqL K H q (vN pl) ∧ (∀ p, lvl row p ≤ 9) ∧ (∀ p ∈ pl, p < row.length) ∧ pl.length ≤ 60 ∧ l + n = 9 ∧
    ∀ (p : Addr) (H' : Hp), Same H H' → H p = none → H' p = some (.lst (vN (ord (lvl row) n l pl))) → Q (.ref p) H'
theorem six_at {j : Int} (h0 : 0 ≤ j) (h6 : j < 6) : ∃ d, atI [V.int 0, V.int 0, V.int 1, V.int (-1), V.int 2, V.int (-2)] j = some (V.int d) := by
  have : j = 0 ∨ j = 1 ∨ j = 2 ∨ j = 3 ∨ j = 4 ∨ j = 5 := by omega
  rcases this with rfl | rfl | rfl | rfl | rfl | rfl <;> exact ⟨_, rfl⟩
theorem RowOk.nil : RowOk [] := ⟨by simp, by simp, by simp⟩
theorem rowOk_snoc {row : List Int} {x : Int} (h : RowOk row) (hl : row.length < 60) (h0 : 0 ≤ x) (h9 : x ≤ 9) : RowOk (row ++ [x]) := by
  refine ⟨by simp; omega, fun y hy => ?_, fun y hy => ?_⟩
  · rcases List.mem_append.mp hy with hy | hy
    · exact h.lo y hy
    · rw [List.mem_singleton.mp hy]; exact h0
  · rcases List.mem_append.mp hy with hy | hy
    · exact h.hi y hy
    · rw [List.mem_singleton.mp hy]; exact h9
theorem drop_split {α : Type} (pl : List α) {i j : Nat} (h : i ≤ j) : pl.drop i = (pl.drop i).take (j - i) ++ pl.drop j := by
  have e := (List.take_append_drop (j - i) (pl.drop i)).symm
  rw [List.drop_drop] at e
  have : i + (j - i) = j := by omega
  rw [this] at e
  exact e
theorem take_drop_mem {α : Type} {pl : List α} {i k : Nat} {x : α} (h : x ∈ (pl.drop i).take k) : ∃ t, i ≤ t ∧ t < i + k ∧ pl[t]? = some x := by
  obtain ⟨m, hm, e⟩ := List.mem_iff_getElem.mp h
  rw [List.length_take, List.length_drop] at hm
  refine ⟨i + m, by omega, by omega, ?_⟩
  rw [List.getElem_take, List.getElem_drop] at e
  rw [List.getElem?_eq_getElem (by omega), e]
theorem ord_head {lv : Nat → Int} {n : Nat} {l : Int} {x : Nat} {ys : List Nat} (h : lv x ≤ l) : ord lv n l (x :: ys) = x :: ord lv n l ys := by
  have := ord_cut (lv := lv) (p := x) (l := l) h n [] ys
  rw [List.nil_append, ord_nil, List.nil_append] at this
  exact this
theorem ord_run {lv : Nat → Int} {n : Nat} {l : Int} {pl : List Nat} {i j : Nat} (hij : i ≤ j) (hq : ∀ t x, i ≤ t → t < j → pl[t]? = some x → l < lv x) (he : ∀ x, pl[j]? = some x → lv x ≤ l) :
    ord lv (n + 1) l (pl.drop i) = (ord lv n (l + 1) ((pl.drop i).take (j - i))).reverse ++ ord lv (n + 1) l (pl.drop j) := by
  have ha : ∀ x ∈ (pl.drop i).take (j - i), decide (l < lv x) = true := by
    intro x hx
    obtain ⟨t, h1, h2, h3⟩ := take_drop_mem hx
    exact decide_eq_true (hq t x h1 (by omega) h3)
  have e := drop_split pl hij
  cases ed : pl.drop j with
  | nil =>
    rw [ed, List.append_nil] at e
    rw [ord_nil, List.append_nil, ← e]
    rw [← e] at ha
    exact ord_step (fun x hx => of_decide_eq_true (ha x hx))
  | cons x ys =>
    rw [ed] at e
    have hx : lv x ≤ l := he x (by
      have : (pl.drop j)[0]? = some x := by rw [ed]; rfl
      rw [List.getElem?_drop] at this
      simpa using this)
    rw [ord_head hx]
    conv => lhs; rw [e]
    have e2 := blocks_step (F := fun xs => (ord lv n (l + 1) xs).reverse) (q := fun p => decide (l < lv p)) ha (p := x) (by simp; omega) ys
    exact e2
end LX
namespace LX
open PySem PySem.Spec PyProof.Rows L2 TM
/-- the order of a row, and where each place is seen -/
def theOrd (row : List Int) : List Nat := ord (lvl row) 9 0 (List.range row.length)
def seenL (row : List Int) : List Nat := (List.range row.length).map fun p => (theOrd row).idxOf p
abbrev toI (l : List Nat) : List Int := l.map fun n : Nat => (n : Int)
theorem toI_len (l : List Nat) : (toI l).length = l.length := by simp
theorem theOrd_perm (row : List Int) : (theOrd row).Perm (List.range row.length) := ord_perm 9 0 _
theorem theOrd_len (row : List Int) : (theOrd row).length = row.length := by rw [(theOrd_perm row).length_eq, List.length_range]
theorem seenL_len (row : List Int) : (seenL row).length = row.length := by simp [seenL]
theorem theOrd_mem {row : List Int} {p : Nat} : p ∈ theOrd row ↔ p < row.length := by rw [(theOrd_perm row).mem_iff, List.mem_range]
theorem theOrd_nodup (row : List Int) : (theOrd row).Nodup := (theOrd_perm row).nodup_iff.mpr List.nodup_range
def spOrder (K : PySem.W.Frag) : Sp := fun vs H Q _ => ∃ (a : Addr) (row : List Int), vs = [.ref a] ∧ SqL K H a (vI row) ∧ RowOk row ∧ ∀ (p : Addr) (H' : Hp), Same H H' → H p = none → H' p = some (.lst (vN (theOrd row))) → Q (.ref p) H'
def spSeenAt (K : PySem.W.Frag) : Sp := fun vs H Q _ => ∃ (a : Addr) (row : List Int), vs = [.ref a] ∧ SqL K H a (vI row) ∧ RowOk row ∧ ∀ (p : Addr) (H' : Hp), Same H H' → H p = none → H' p = some (.lst (vN (seenL row))) → Q (.ref p) H'
theorem iota_vN (n : Nat) : (iota 0 n).map V.int = vN (List.range n) := by
  unfold iota
  simp [vN]
theorem idxOf_toI (l : List Nat) (k : Nat) : (toI l).idxOf (k : Int) = l.idxOf k := by
  induction l with
  | nil => rfl
  | cons x l ih =>
    show ((x : Int) :: toI l).idxOf (k : Int) = _
    rw [List.idxOf_cons, List.idxOf_cons, ih]
    by_cases h : x = k
    · subst h; simp
    · have h' : ((x : Int) == (k : Int)) = false := beq_eq_false_iff_ne.mpr (by omega)
      have h2 : (x == k) = false := beq_eq_false_iff_ne.mpr h
      rw [h', h2]
theorem vN_get {l : List Nat} {i : Nat} {x : V} (h : (vN l)[i]? = some x) : ∃ n, l[i]? = some n ∧ x = V.int (n : Int) := by
  rw [List.getElem?_map] at h
  cases e : l[i]? with
  | none => rw [e] at h; cases h
  | some n => rw [e] at h; exact ⟨n, rfl, (Option.some.inj h).symm⟩
end LX
namespace LX
open PySem PySem.Spec PyProof.Rows L2
open SeqAt
section
variable {X : Cx}
end
end LX
namespace LX
open PySem PySem.Spec PyProof.Rows L2 TM
structure GroupOk (row : List Int) (L : Int) (g : List Nat) : Prop where
  ne : g ≠ []
  ge : ∀ p ∈ g, L ≤ lvl row p
  ex : ∃ xs ys, List.range row.length = xs ++ (g ++ ys) ∧ (∀ z p, xs = z ++ [p] → lvl row p < L) ∧ (∀ p z, ys = p :: z → lvl row p < L)
theorem idx_mid {xs ms ys : List Nat} (h : (xs ++ (ms ++ ys)).Nodup) : ms.map (fun p => (xs ++ (ms ++ ys)).idxOf p) = (List.range ms.length).map (xs.length + ·) := by
  refine List.ext_getElem (by simp) fun j h1 h2 => ?_
  rw [List.length_map] at h1
  rw [List.getElem_map, List.getElem_map, List.getElem_range]
  have hj : xs.length + j < (xs ++ (ms ++ ys)).length := by simp; omega
  have e : (xs ++ (ms ++ ys))[xs.length + j] = ms[j] := by
    rw [List.getElem_append_right (by omega), List.getElem_append_left (by omega)]
    simp
  rw [← e]
  exact h.idxOf_getElem (xs.length + j) hj
/-- lists of places, one at each address -/
def ListsAt (H : Hp) (as : List Addr) (gs : List (List Nat)) : Prop := Paired (fun (a : Addr) (g : List Nat) => H a = some (.lst (vN g))) as gs
theorem ListsAt.keep {H H' : Hp} {as : List Addr} {gs : List (List Nat)} (h : ListsAt H as gs) (k : ∀ a ∈ as, H' a = H a) : ListsAt H' as gs := by
  induction h with
  | nil => exact .nil
  | cons r t ih => exact .cons (by rw [k _ List.mem_cons_self]; exact r) (ih fun a ha => k a (List.mem_cons_of_mem _ ha))
theorem ListsAt.same {H H' : Hp} {as : List Addr} {gs : List (List Nat)} (h : ListsAt H as gs) (k : Same H H') : ListsAt H' as gs := by
  induction h with
  | nil => exact .nil
  | cons r t ih => exact .cons (k _ _ r) ih
theorem ListsAt.snoc {H : Hp} {as : List Addr} {gs : List (List Nat)} {a : Addr} {g : List Nat} (h : ListsAt H as gs) (e : H a = some (.lst (vN g))) : ListsAt H (as ++ [a]) (gs ++ [g]) := by
  induction h with
  | nil => exact .cons e .nil
  | cons r t ih => exact .cons r ih
theorem ListsAt.at {H : Hp} {as : List Addr} {gs : List (List Nat)} (h : ListsAt H as gs) : ∀ {i : Nat} {a : Addr}, as[i]? = some a → ∃ g, gs[i]? = some g ∧ H a = some (.lst (vN g)) := by
  induction h with
  | nil => intro i a e; simp at e
  | cons r t ih =>
    intro i a e
    cases i with
    | zero => cases e; exact ⟨_, rfl, r⟩
    | succ i => exact ih e
end LX
namespace LX
open PySem PySem.Spec PyProof.Rows L2 TM
def faceV : Option Int → V
  | none => .non
  | some i => .int i
abbrev Face := Option Int × Option Int
def TupsAt (H : Hp) (as : List Addr) (prs : List Face) : Prop := Paired (fun (a : Addr) (x : Face) => H a = some (.tup [faceV x.1, faceV x.2])) as prs
theorem TupsAt.len {H : Hp} {as : List Addr} {prs : List Face} (h : TupsAt H as prs) : as.length = prs.length := Paired.length h
theorem TupsAt.same {H H' : Hp} {as : List Addr} {prs : List Face} (h : TupsAt H as prs) (k : Same H H') : TupsAt H' as prs := by
  induction h with
  | nil => exact .nil
  | cons r t ih => exact .cons (k _ _ r) ih
theorem TupsAt.keep {H H' : Hp} {as : List Addr} {prs : List Face} (h : TupsAt H as prs) (k : ∀ a ∈ as, H' a = H a) : TupsAt H' as prs := by
  induction h with
  | nil => exact .nil
  | cons r t ih => exact .cons (by rw [k _ List.mem_cons_self]; exact r) (ih fun a ha => k a (List.mem_cons_of_mem _ ha))
theorem TupsAt.snoc {H : Hp} {as : List Addr} {prs : List Face} {a : Addr} {x : Face} (h : TupsAt H as prs) (e : H a = some (.tup [faceV x.1, faceV x.2])) : TupsAt H (as ++ [a]) (prs ++ [x]) := by
  induction h with
  | nil => exact .cons e .nil
  | cons r t ih => exact .cons r ih
theorem TupsAt.at {H : Hp} {as : List Addr} {prs : List Face} (h : TupsAt H as prs) : ∀ {i : Nat} {a : Addr}, as[i]? = some a → ∃ x, prs[i]? = some x ∧ H a = some (.tup [faceV x.1, faceV x.2]) := by
  induction h with
  | nil => intro i a e; simp at e
  | cons r t ih =>
    intro i a e
    cases i with
    | zero => cases e; exact ⟨_, rfl, r⟩
    | succ i => exact ih e
theorem TupsAt.atp {H : Hp} {as : List Addr} {prs : List Face} (h : TupsAt H as prs) : ∀ {i : Nat} {x : Face}, prs[i]? = some x → ∃ a, as[i]? = some a ∧ H a = some (.tup [faceV x.1, faceV x.2]) := by
  induction h with
  | nil => intro i a e; simp at e
  | cons r t ih =>
    intro i a e
    cases i with
    | zero => cases e; exact ⟨_, rfl, r⟩
    | succ i => exact ih e
theorem TupsAt.there {H : Hp} {as : List Addr} {prs : List Face} (h : TupsAt H as prs) : ∀ a ∈ as, ∃ o, H a = some (.tup o) := by
  intro a ha
  obtain ⟨i, hi⟩ := List.getElem?_of_mem ha
  obtain ⟨_, _, e⟩ := h.at hi
  exact ⟨_, e⟩
theorem refs_at {as : List Addr} {i : Nat} {a : Addr} (h : as[i]? = some a) : atI (as.map V.ref) (i : Int) = some (V.ref a) := by
  refine atI_nat ?_
  rw [List.getElem?_map, h]
  rfl
theorem refs_get {as : List Addr} {i : Nat} {x : V} (h : (as.map V.ref)[i]? = some x) : ∃ a, as[i]? = some a ∧ x = V.ref a := by
  rw [List.getElem?_map] at h
  cases e : as[i]? with
  | none => rw [e] at h; cases h
  | some n => rw [e] at h; exact ⟨n, rfl, (Option.some.inj h).symm⟩
def idx (row : List Int) (p : Nat) : Int := ((theOrd row).idxOf p : Nat)
/-- the edge at which the sign at p begins, ends -/
def edgeB (row : List Int) (p : Nat) : Int := idx row p + lvl row p % 2
def edgeE (row : List Int) (p : Nat) : Int := idx row p + 1 - lvl row p % 2
def caret (row : List Int) (p : Nat) : Face := (if p = 0 then none else some (edgeE row (p - 1)), if p < row.length then some (edgeB row p) else none)
def carets (row : List Int) : List Face := (List.range (row.length + 1)).map (caret row)
theorem carets_len (row : List Int) : (carets row).length = row.length + 1 := by simp [carets]
theorem carets_at {row : List Int} {p : Nat} (h : p ≤ row.length) : (carets row)[p]? = some (caret row p) := by
  unfold carets
  rw [List.getElem?_map, List.getElem?_range (by omega)]
  rfl
theorem range_mid {n p : Nat} (h : p + 2 ≤ n) : List.range n = List.range p ++ ([p, p + 1] ++ (List.range (n - (p + 2))).map (p + 2 + ·)) := by
  have e1 : n = (p + 2) + (n - (p + 2)) := by omega
  have e2 : List.range n = List.range (p + 2) ++ (List.range (n - (p + 2))).map (p + 2 + ·) := by
    conv => lhs; rw [e1]
    exact List.range_add
  rw [e2, List.range_succ, List.range_succ]
  simp
theorem idx_two {xs ys l : List Nat} {a b : Nat} (e : l = xs ++ ([a, b] ++ ys)) (h : l.Nodup) : l.idxOf b = l.idxOf a + 1 := by
  subst e
  have h0 := idx_mid h
  have e1 : ([a, b] : List Nat).map (fun p => (xs ++ ([a, b] ++ ys)).idxOf p) = [(xs ++ ([a, b] ++ ys)).idxOf a, (xs ++ ([a, b] ++ ys)).idxOf b] := rfl
  have e2 : (List.range ([a, b] : List Nat).length).map (xs.length + ·) = [xs.length + 0, xs.length + 1] := rfl
  rw [e1, e2] at h0
  injection h0 with h1 h2
  injection h2 with h2 _
  rw [h1, h2]
/-- both faces are one between two signs of one level -/
theorem caret_one {row : List Int} (hR : RowOk row) {p : Nat} (hp : p + 1 < row.length) (h : lvl row p = lvl row (p + 1)) : edgeE row p = edgeB row (p + 1) := by
  obtain ⟨xs', ys', e⟩ := ord_pair (lv := lvl row) (a := p) (b := p + 1) h 9 0 (List.range p) ((List.range (row.length - (p + 2))).map (p + 2 + ·)) (lvl_ge hR p) (by have := lvl_le hR p; omega)
  rw [← range_mid (by omega)] at e
  have nd := theOrd_nodup row
  have eo : theOrd row = ord (lvl row) 9 0 (List.range row.length) := rfl
  rw [← eo] at e
  unfold edgeE edgeB idx
  rw [← h]
  have h0 := lvl_ge hR p
  by_cases q : (lvl row p - 0) % 2 = 0
  · rw [if_pos q] at e
    have := idx_two e nd
    omega
  · rw [if_neg q] at e
    have := idx_two e nd
    omega
def spCarets (K : PySem.W.Frag) : Sp := fun vs H Q _ => ∃ (a : Addr) (row : List Int), vs = [.ref a] ∧ SqL K H a (vI row) ∧ RowOk row ∧ ∀ (p : Addr) (as : List Addr) (H' : Hp), Same H H' → H p = none → H' p = some (.lst (as.map V.ref)) → TupsAt H' as (carets row) → Q (.ref p) H'
def spFace : Sp := fun vs H Q _ => ∃ x : Option Int, vs = [faceV x, faceV x] ∧ Q (.bl true) H
def spSameC : Sp := fun vs H Q _ => ∃ (p q : Addr) (as bs : List Addr) (prs : List Face), vs = [.ref p, .ref q] ∧ H p = some (.lst (as.map V.ref)) ∧ H q = some (.lst (bs.map V.ref)) ∧ TupsAt H as prs ∧ TupsAt H bs prs ∧ prs.length ≤ 1000 ∧ ∀ H', Same H H' → Q (.bl true) H'
theorem two_at {i j : Int} (h0 : 0 ≤ j) (h1 : j ≤ 1) : atI [V.int i, V.int (i + 1)] j = some (V.int (i + j)) := by
  have : j = 0 ∨ j = 1 := by omega
  rcases this with rfl | rfl
  · rw [Int.add_zero]; rfl
  · rfl
def edgeP (row : List Int) (p : Nat) : Face := (some (idx row p), some (idx row p + 1))
def edgesP (row : List Int) (n : Nat) : List Face := (List.range n).map (edgeP row)
theorem edgesP_at {row : List Int} {n p : Nat} (h : p < n) : (edgesP row n)[p]? = some (edgeP row p) := by
  unfold edgesP
  rw [List.getElem?_map, List.getElem?_range h]
  rfl
theorem TupsAt.off {H : Hp} {as : List Addr} {prs : List Face} {p : Addr} {xs : List V} {o : HO} (h : TupsAt H as prs) (hp : H p = some (.lst xs)) : TupsAt (upd H p o) as prs := h.keep fun a ha => by
  obtain ⟨t, ht⟩ := h.there a ha
  exact upd_ne (fun e => by rw [e, hp] at ht; cases ht)
end LX
namespace LX
open PySem PySem.Spec PyProof.Rows L2
section
variable {prog : Program} {w : World} {A : Around} {R : Result → Shared → Prop} {s : Shared}
theorem comp_loopF {elt target iter cnd : Expr} {scope : Scope} {pos : Pos} {it acc : Value} {env : Env} (I : Nat → Shared → Prop)
    (turn : ∀ n s, I n s → wpAny (model prog w) A (pyNext it) (fun r s₁ => match r with
      | none => R (.ok .next) s₁
      | some v => wpAny (model prog w) A (letOwnedTupleGo target it v) (fun _ s₁' => wpAny (model prog w) A (assign target env v) (fun _ s₂ => wpAny (model prog w) A (isTrue cnd env (eval cnd env)) (fun b s₂' =>
          if b = true then wpAny (model prog w) A (eval elt env) (fun x s₃ =>
          wpAny (model prog w) A (call (.builtin "list.append") [acc, x]) (fun _ s₄ => ∃ m, m < n ∧ I m s₄) (fun _ _ => False) s₃) (fun _ _ => False) s₂' else ∃ m, m < n ∧ I m s₂') (fun _ _ => False) s₂) (fun _ _ => False) s₁') (fun _ _ => False) s₁) (fun _ _ => False) s)
    (n : Nat) (h : I n s) : codeAny (model prog w) A (.compLoop (.ListComp elt [⟨target, iter, [cnd], 0⟩] scope pos) 0 it acc env) R s := by
  refine codeAny_loop rfl I (fun n s hI => ?_) n h
  show wpAny _ _ ((compTurn (.ListComp elt [⟨target, iter, [cnd], 0⟩] scope pos) 0 it acc env).onRaise (fun x => do noteFrame x env; theTreesLotGoes x)) _ _ s
  refine wpAny_noted ?_
  rw [compTurn_list]
  refine wpAny_bind (wpAny_standAt (wpAny_bind (wpAny_mono (turn n s hI) (fun r s₁ h₁ => ?_) fun _ _ h' => h'.elim)))
  cases r with
  | none => exact wpAny_pure h₁
  | some v =>
    refine wpAny_bind (wpAny_mono h₁ (fun _ s₁' h₁' => wpAny_bind (wpAny_mono h₁' (fun _ s₂ h₂ => wpAny_bind (wpAny_mono (wpAny_tests_one h₂) (fun ok s₃ h₃ => ?_) fun _ _ h' => h'.elim)) fun _ _ h' => h'.elim)) fun _ _ h' => h'.elim)
    cases ok with
    | false =>
      rw [if_neg Bool.false_ne_true] at h₃
      exact wpAny_pure ⟨rfl, h₃⟩
    | true =>
      rw [if_pos rfl] at h₃
      exact wpAny_bind (wpAny_bind (wpAny_mono h₃ (fun x s₄ h₄ => wpAny_bind (wpAny_mono h₄ (fun _ s₅ h₅ => wpAny_pure (wpAny_pure ⟨rfl, h₅⟩)) fun _ _ h' => h'.elim)) fun _ _ h' => h'.elim))
end
section
variable {X : Cx} {fsc : Scope} {N xs ys : List Str} {sel : List Nat} {scope : Scope} {pins : List (Addr × Obj)} {σ : L2.St} {H : Hp} {s : Shared}
def compGF (k : Nat) (sel : List Nat) (g : TG) (tc : TT) (te : TE) (σ : L2.St) (Q : VK) (J : It) (H1 : Hp) : Prop := ∃ W : Nat → Nat → List V → L2.St → Hp → Prop, (∃ m, W 0 m [] (capOf k sel σ) H1) ∧
  ∀ i m ys σ H, W i m ys σ H → (J.stop i H ∧ ∀ p, H p = none → Q (.ref p) (upd H p (.lst ys))) ∨
    (J.go i H ∧ ys.length < sizeLine ∧ ∀ v H', J.yld i H v H' → g v σ H' fun σ2 H2 => tc σ2 H2 fun b H3 => if b = true then te σ2 H3 fun y H4 => ∃ m', m' < m ∧ W (i + 1) m' (ys ++ [y]) σ2 H4 else ∃ m', m' < m ∧ W (i + 1) m' ys σ2 H3)
def tCompF (k : Nat) (sel : List Nat) (wi : TI) (g : TG) (tc : TT) (te : TE) : TE := fun σ H Q => wi σ H (compGF k sel g tc te σ Q)

theorem comp_coreF {elt iter tg cnd : Expr} {pos : Pos} {te : TE} {tc : TT} {g : TG} {it : Addr} {fp : List Addr} {tn : Nat → Heap → Prop} {J : It} {E : Value → Shared → Prop} {Fin : List V → Hp → Prop} {W : Nat → Nat → List V → L2.St → Hp → Prop}
    {RR : Value → Addr → Result → Shared → Prop} (S : CompSc fsc N xs ys sel scope) (eS : X.env.scope = fsc) (eN : X.N = N) (hc : X.calm = true)
    (hg : ∀ cl C s₀ H₀ ex pn, PG (cxC X (xs ++ ys) scope cl C s₀ H₀ ex pn) tg g) (he : ∀ cl C s₀ H₀ ex pn, PE (cxC X (xs ++ ys) scope cl C s₀ H₀ ex pn) elt te) (hcn : ∀ cl C s₀ H₀ ex pn, PT (cxC X (xs ++ ys) scope cl C s₀ H₀ ex pn) cnd tc)
    (I : Inv X pins σ H s) (T : Turn X.prog X.w X.K tg J fp it tn) (st : tn 0 s.heap) (hf : ∀ b ∈ fp, FpOk X pins H b) (w0 : ∃ m, W 0 m [] (capOf xs.length sel σ) H)
    (turn : ∀ i m ys σ H, W i m ys σ H → (J.stop i H ∧ Fin ys H) ∨ (J.go i H ∧ ys.length < sizeLine ∧ ∀ v H', J.yld i H v H' → g v σ H' fun σ2 H2 => tc σ2 H2 fun b H3 => if b = true then te σ2 H3 fun y H4 => ∃ m', m' < m ∧ W (i + 1) m' (ys ++ [y]) σ2 H4 else ∃ m', m' < m ∧ W (i + 1) m' ys σ2 H3))
    (hRR : ∀ D C s' ys H' m', Fin ys H' → H' D = none → Inv X pins σ (upd H' D (.lst ys)) s' → s'.heap.Ns C m' → FpOk X pins (upd H' D (.lst ys)) C → RR (.ref D) C (.ok .next) s') :
    wpAny (model X.prog X.w) X.A (newList []) (fun acc s₃ => wpAny (model X.prog X.w) X.A (newFunctionEnv scope X.env.globals (clsOf scope.names X.env []) [] X.env.qual none .none (some X.env)) (fun cenv s₄ =>
      codeAny (model X.prog X.w) X.A (.compStart (.ListComp elt [⟨tg, iter, [cnd], 0⟩] scope pos) 0 (.ref it) acc { cenv with scope := relabel scope X.env }) (RR acc cenv.locals) s₄) E s₃) E s := by
  refine wpAny_newObj_type (wpAny_newFunctionEnv S.nocell (by intro y hy; simp at hy) (fun h₁ hns₁ hsb₁ => ?_) S.kind)
  dsimp only at hns₁ hsb₁ ⊢
  generalize hH2 : s.heap.push { cls := .type "list", dict := none, data := .seq ([] : List Value).toArray } = H2 at hns₁ hsb₁ ⊢
  have hC : H2.objs.size = s.heap.objs.size + 1 := by rw [← hH2, Heap.size_push]
  have hDC : s.heap.objs.size ≠ H2.objs.size := by rw [hC]; exact Nat.ne_of_lt (Nat.lt_succ_self _)
  have hCle : s.heap.objs.size ≤ H2.objs.size := by rw [hC]; exact Nat.le_succ _
  have below : ∀ b, b < s.heap.objs.size → b ≠ H2.objs.size ∧ b ≠ s.heap.objs.size := fun b hb => ⟨by rw [hC]; exact Nat.ne_of_lt (Nat.lt_succ_of_lt hb), Nat.ne_of_lt hb⟩
  have old : ∀ b o, s.heap.get? b = some o → h₁.get? b = some o := fun b o e => hsb₁.extBut b o (below b (Heap.lt_size e)).1 (Heap.get?_push_of_some _ (hH2 ▸ Heap.get?_push_of_some _ e))
  have hacc : h₁.get? s.heap.objs.size = some { cls := .type "list", data := .seq ([] : List Value).toArray } := hsb₁.extBut _ _ hDC (Heap.get?_push_of_some _ (hH2 ▸ Heap.get?_push_size _ rfl))
  have hlive : ∀ b ∈ fp, ∃ o, s.heap.get? b = some o := fun b hb => by
    obtain ⟨o, ho, _⟩ := T.obj 0 _ st b hb
    exact ⟨o, ho⟩
  have hDf : ∀ b ∈ fp, b ≠ s.heap.objs.size := fun b hb z => by
    obtain ⟨o, ho⟩ := hlive b hb
    exact absurd (Heap.lt_size ho) (by rw [z]; exact Nat.lt_irrefl _)
  generalize hDD : s.heap.objs.size = D at hDC hCle below hacc hDf ⊢
  generalize hCC : H2.objs.size = C at hns₁ hsb₁ hDC hCle below ⊢
  have hCs : s.heap.objs.size ≤ C := by rw [hDD]; exact hCle
  have IC := comp_inv (t' := s.toks + ([] : List (Str × Value)).length) S eS eN I hf hlive old hCs hns₁
  -- what is true of the accumulator and of the iterator's records
  have fpD : ∀ {H' : Hp}, H' D = none → FpOk (cxC X (xs ++ ys) scope (clsOf scope.names X.env []) C s H fp (X.pn ++ pins)) [] H' D := fun {H'} hn => by
    refine ⟨hn, hDC, ?_, .inr (show s.heap.objs.size ≤ D from Nat.le_of_eq hDD), fun y c e z => ?_, fun p hp z => ?_⟩
    · intro z
      exact (List.mem_cons.mp (I.stkSub D z)).elim (fun q => absurd I.lt (by rw [← q, hDD]; exact Nat.lt_irrefl _)) (fun q => I.nofs (Nat.le_of_eq hDD) q)
    · obtain ⟨v, q⟩ := I.cell y c (cls_lookup e)
      exact absurd q.lt (by rw [z, hDD]; exact Nat.lt_irrefl _)
    · have hp' : p ∈ X.pn ++ pins := by
        rcases List.mem_append.mp hp with q | q
        · exact q
        · cases q
      exact absurd (Heap.lt_size (I.pin p hp').1) (by rw [z, hDD]; exact Nat.lt_irrefl _)
  have fpF : ∀ {H' : Hp} {pl : List (Addr × Obj)}, (∀ p ∈ pl, p.1 = D) → (∀ b ∈ fp, H' b = none) → ∀ b ∈ fp, FpOk (cxC X (xs ++ ys) scope (clsOf scope.names X.env []) C s H fp (X.pn ++ pins)) pl H' b := fun {H' pl} hpl hn b hb => by
    obtain ⟨f0, f1, f2, f3, f4, f5⟩ := hf b hb
    obtain ⟨o, ho⟩ := hlive b hb
    refine ⟨hn b hb, Nat.ne_of_lt (Nat.lt_of_lt_of_le (Heap.lt_size ho) hCs), fun z => (List.mem_cons.mp (I.stkSub b z)).elim f1 f2, .inl hb, fun y c e => f4 y c (cls_lookup e), fun p hp => ?_⟩
    rcases List.mem_append.mp hp with q | q
    · exact f5 p q
    · rw [hpl p q]; exact Ne.symm (hDf b hb)
  have one : ∀ {ob : Obj}, ∀ p ∈ [(D, ob)], p.1 = D := fun {ob} p hp => by
    rw [List.mem_singleton.mp hp]
  have none0 : ∀ p ∈ ([] : List (Addr × Obj)), p.1 = D := fun p hp => by cases hp
  have loop : ∀ s₃ : Shared, s₃ = { s with heap := h₁, toks := s.toks + ([] : List (Str × Value)).length } →
      codeAny (model X.prog X.w) X.A (.compLoop (.ListComp elt [⟨tg, iter, [cnd], 0⟩] scope pos) 0 (.ref it) (.ref D) (compEnvC scope (clsOf scope.names X.env []) C X.env)) (RR (.ref D) C) s₃ := by
    rintro s₃ rfl
    obtain ⟨m0, w0⟩ := w0
    refine comp_loopF (fun n s' => ∃ i σ' H' zs its cnt, Inv (cxC X (xs ++ ys) scope (clsOf scope.names X.env []) C s H fp (X.pn ++ pins)) [] σ' H' s' ∧ tn i s'.heap ∧ (∀ b ∈ fp, H' b = none) ∧
      s'.heap.get? D = some { cls := .type "list", data := .seq (its : List Value).toArray cnt } ∧ Vals zs its ∧ H' D = none ∧ zs.length ≤ sizeLine ∧ W i n zs σ' H') ?_ m0
      ⟨0, _, H, [], [], 0, IC, T.keep _ _ _ st fun b hb o e => old b o e, fun b hb => (hf b hb).1, hacc, .nil, I.hok.fresh (Nat.le_of_eq hDD), Nat.zero_le _, w0⟩
    rintro n s' ⟨i, σ', H', zs, its, cnt, I', st', fr', hD', vv, nD', hz', w'⟩
    have Ip : Inv (cxC X (xs ++ ys) scope (clsOf scope.names X.env []) C s H fp (X.pn ++ pins)) [(D, { cls := .type "list", data := .seq its.toArray cnt })] σ' H' s' := I'.pins_of fun p hp => by
      rw [List.mem_singleton.mp hp]
      obtain ⟨f0, f1, f2, _⟩ := fpD nD'
      exact ⟨hD', nD', f1, f2, fun v z => by cases z⟩
    rcases turn i n zs σ' H' w' with ⟨stop, fin⟩ | ⟨go, hlt, step⟩
    · refine thn (T.done (cxC X (xs ++ ys) scope (clsOf scope.names X.env []) C s H fp (X.pn ++ pins)) rfl rfl rfl hc i _ s' σ' H' _ Ip (fpF one fr') st' stop) fun r s4 ⟨hr, I4⟩ => ?_
      subst hr
      dsimp only
      have pD4 := I4.pin (D, { cls := .type "list", data := .seq its.toArray cnt }) (List.mem_append_right _ List.mem_cons_self)
      have nC : H' C = none := I4.free
      obtain ⟨mC, hmC, _⟩ := I4.loc
      have hD4 : s4.heap.get? D = some { cls := .type "list", data := .seq its.toArray cnt } := pD4.1
      have uN : Un (frs X.stack) fp H (upd H' D (.lst zs)) s.heap s4.heap := by
        have u : Un (frs X.stack) fp H H' s.heap s4.heap := I4.base
        refine ⟨u.keep, u.slot, fun b o e n hx => ?_, u.there, fun b q e => ?_, fun b o q e => ?_, fun b q e => ?_⟩
        · rw [upd_ne (by rw [← hDD]; exact Nat.ne_of_lt (Heap.lt_size e))]
          exact u.free b o e n hx
        · have e' := u.tups b q e
          rw [upd_ne (ne_of_none e' nD')]
          exact e'
        · have e' := u.frzs b o q e
          rw [upd_ne (ne_of_none e' nD')]
          exact e'
        · obtain ⟨more, e'⟩ := u.tbls b q e
          exact ⟨more, by rw [upd_ne (ne_of_none e' nD')]; exact e'⟩
      have hokN : HOk X.prog X.w (upd H' D (.lst zs)) s4.heap := fun b u e => by
        by_cases hb : b = D
        · subst hb
          rw [upd_same] at e
          cases e
          exact ⟨hz', its, cnt, vv, hD4⟩
        · rw [upd_ne hb] at e
          exact (I4.hok b u e).stay (fun _ _ _ q => q) (fun c q => by rw [upd_ne (ne_of_none q nD')]; exact q) fun c _ q => by rw [upd_ne (ne_of_none q nD')]; exact q
      have IX : Inv X pins σ (upd H' D (.lst zs)) s4 := I.call' I4.os uN hokN I4.bare fun b hb => let ⟨_, f1, _, f3, f4, f5⟩ := hf b hb; ⟨f3, f1, f4, f5⟩
      refine hRR D C s4 zs H' mC fin nD' IX hmC (I.fpOk hCs ?_)
      rw [upd_ne (Ne.symm hDC)]
      exact nC
    · refine thn (T.item (cxC X (xs ++ ys) scope (clsOf scope.names X.env []) C s H fp (X.pn ++ pins)) rfl rfl rfl hc i _ s' σ' H' _ Ip (fpF one fr') st' go) fun r s4 ⟨u, hr, h4⟩ => ?_
      subst hr
      dsimp only
      refine thn h4 fun _ s5 ⟨x, H5, I5, r5, y5, st5, fr5⟩ => ?_
      have pD5 := I5.pin (D, { cls := .type "list", data := .seq its.toArray cnt }) (List.mem_append_right _ List.mem_cons_self)
      have nD5 : H5 D = none := pD5.2.1
      have hD5 : s5.heap.get? D = some { cls := .type "list", data := .seq its.toArray cnt } := pD5.1
      have I50 : Inv (cxC X (xs ++ ys) scope (clsOf scope.names X.env []) C s H fp (X.pn ++ pins)) [] σ' H5 s5 := I5.pins_of fun p hp => by cases hp
      have I5' := I50.pinned (fp := D :: fp) (fun b hb => by
        rcases List.mem_cons.mp hb with z | z
        · rw [z]; exact fpD nD5
        · exact fpF none0 fr5 b z) (fun b hb => by
        rcases List.mem_cons.mp hb with z | z
        · rw [z]; exact ⟨_, hD5, fun v z => by cases z⟩
        · exact T.obj _ _ st5 b z)
      refine thn (hg _ _ _ _ _ _ _ s5 σ' H5 x u _ I5' r5 (step x H5 y5)) fun _ s6 ⟨σ6, H6, I6, q6⟩ => ?_
      refine thn (hcn _ _ _ _ _ _ _ s6 σ6 H6 _ I6 q6) fun bv s65 ⟨H65, I65, q65⟩ => ?_
      have pin65 : ∀ {b : Addr} {o : Obj}, b ∈ D :: fp → s5.heap.get? b = some o → s65.heap.get? b = some o ∧ H65 b = none := fun {b o} hb e =>
        let q := I65.pin (b, o) (List.mem_append_right _ (List.mem_append_right _ (mem_pinsAt hb e))); ⟨q.1, q.2.1⟩
      cases bv with
      | false =>
        rw [if_neg Bool.false_ne_true] at q65 ⊢
        obtain ⟨m', hm, w7⟩ := q65
        obtain ⟨hD7, nD7⟩ := pin65 List.mem_cons_self hD5
        refine ⟨m', hm, i + 1, σ6, H65, zs, its, _, ?_, ?_, fun b hb => ?_, hD7, vv, nD7, hz', w7⟩
        · exact I65.unpinned
        · exact T.keep _ _ _ st5 fun b hb o e => (pin65 (List.mem_cons_of_mem _ hb) e).1
        · obtain ⟨o, e, _⟩ := T.obj _ _ st5 b hb
          exact (pin65 (List.mem_cons_of_mem _ hb) e).2
      | true =>
      rw [if_pos rfl] at q65 ⊢
      refine thn (he _ _ _ _ _ _ _ s65 σ6 H65 _ I65 q65) fun yv s7 ⟨y, H7, I7, r7, m', hm, w7⟩ => ?_
      have pin7 : ∀ {b : Addr} {o : Obj}, b ∈ D :: fp → s5.heap.get? b = some o → s7.heap.get? b = some o ∧ H7 b = none := fun {b o} hb e =>
        let q := I7.pin (b, o) (List.mem_append_right _ (List.mem_append_right _ (mem_pinsAt hb e))); ⟨q.1, q.2.1⟩
      obtain ⟨hD7, nD7⟩ := pin7 List.mem_cons_self hD5
      have hlv := vv.length
      refine call_meets F.slot_list_append ⟨_, hD7, rfl⟩ F.entry_list_append (F.args_list_append_2 _ _) (PySem.list_append D its.toArray cnt yv (by rw [List.size_toArray]; omega)) ⟨hD7, ?_⟩
      have q := PySem.IsL.update hD7 (fun a => a.push yv)
      have hp : its.toArray.push yv = (its ++ [yv]).toArray := by simp
      rw [hp] at q
      refine ⟨m', hm, i + 1, σ6, H7, zs ++ [y], its ++ [yv], _, ?_, ?_, fun b hb => ?_, q, vv.append (.cons r7 .nil), nD7, ?_, w7⟩
      · obtain ⟨f0, f1, f2, f3, f4, f5⟩ := fpD nD7
        exact I7.unpinned.turned (it := D) (fun b o hb e => (Heap.get?_update_other _ _ (Ne.symm hb)).trans e) f0 f1 f3 f4 f5
      · refine T.keep _ _ _ st5 fun b hb o e => ?_
        exact (Heap.get?_update_other _ _ (Ne.symm (hDf b hb))).trans (pin7 (List.mem_cons_of_mem _ hb) e).1
      · obtain ⟨o, e, _⟩ := T.obj _ _ st5 b hb
        exact (pin7 (List.mem_cons_of_mem _ hb) e).2
      · rw [List.length_append, List.length_singleton]
        omega
  exact codeAny_compStart_list (loop _ rfl) (T.self X.A 0 _ _ _ (T.keep _ _ _ st fun b hb o e => old b o e) (loop _ rfl))

end
end LX
namespace TM
end TM
namespace LX
open PySem PySem.Spec PyProof.Rows L2 TM
end LX
namespace LX
open PySem PySem.Spec PyProof.Rows L2 TM
def pcsF : Nat → Option Nat → List Bool → List (Nat × Nat)
  | at', some b, [] => [(b, at')]
  | _, none, [] => []
  | at', some b, true :: xs => pcsF (at' + 1) (some b) xs
  | at', none, true :: xs => pcsF (at' + 1) (some at') xs
  | at', some b, false :: xs => (b, at') :: pcsF (at' + 1) none xs
  | at', none, false :: xs => pcsF (at' + 1) none xs
def pcs (xs : List Bool) : List (Nat × Nat) := pcsF 0 none xs
def toF (l : List (Nat × Nat)) : List Face := l.map fun x => (some (x.1 : Int), some (x.2 : Int))
theorem toF_len (l : List (Nat × Nat)) : (toF l).length = l.length := by simp [toF]
end LX
namespace LX
open PySem PySem.Spec PyProof.Rows L2
open Sem (wp)
def Itd (hi : Int) (n : Nat) : It := ⟨fun i _ => i < n, fun i H x H' => H' = H ∧ x = .int (hi - i), fun i _ => n ≤ i⟩
theorem turn_rangeD {P : Program} {w : World} {K : PySem.W.Frag} {tg : Expr} (it : Addr) (hi : Int) (n : Nat) : Turn P w K tg (Itd hi n) [it] it (fun i h => IsRangeIter h it (hi + (i : Nat) * (-1)) ((n : Int) - (i : Nat)) (-1)) where
  mem := by simp
  obj := fun i h st b hb => by
    have e : b = it := by simpa using hb
    subst e
    exact ⟨_, st, fun v z => by
      have z' : Data.fields _ = Data.cell v := z
      cases z'⟩
  keep := fun i h h' st k => k it (by simp) _ st
  item := by
    intro X hP hw hK hc i pins s σ H E I hf st hg
    subst hP hw hK
    obtain ⟨f0, f1, f2, f3, f4, f5⟩ := hf it (by simp)
    have W := Walks.range (prog := X.prog) (w := X.w) (I.ok.hd hc) it hi (-1) n
    refine W.item i s _ _ hg st fun v h' tk hv st' kk => ?_
    obtain ⟨t, rfl⟩ := hv
    have I1 : Inv X pins σ H { s with heap := h', toks := tk } := I.turned (fun b o hb e => kk b o (by simpa using hb) e) f0 f1 f3 f4 f5
    refine ⟨_, rfl, go_of (s := { s with heap := h', toks := tk }) (n := "range_iterator") st' rfl rfl (by decide) ⟨.int (hi - i), H, I1, ⟨t, ?_⟩, ⟨rfl, rfl⟩, st', fun b hb => (hf b hb).1⟩⟩
    have : hi - (i : Int) = hi + (i : Nat) * (-1) := by omega
    rw [this]
  done := by
    intro X hP hw hK hc i pins s σ H E I hf st hg
    subst hP hw hK
    obtain ⟨f0, f1, f2, f3, f4, f5⟩ := hf it (by simp)
    exact wpAny_pyNext_range_end (I.ok.hd hc) st (by have : n ≤ i := hg; omega) fun h' eb => ⟨rfl, I.turned (t' := s.toks) (fun b o hb e => eb b o hb e) f0 f1 f3 f4 f5⟩
  self := fun _ _ _ _ _ st h => wpAny_pyIter_rangeiter st h
theorem sizeD (a b : Int) : Builtin.Range.rangeSize a b (-1) = ((a - b).toNat : Int) := by
  unfold Builtin.Range.rangeSize
  simp only [show ¬ ((-1 : Int) > 0) by decide, if_false, show (-(-1) : Int) = 1 from rfl, Int.ediv_one]
  split <;> omega
theorem fitD {a b : Int} (h1 : -(2 ^ 62) ≤ a) (h2 : a < 2 ^ 62) (h3 : -(2 ^ 62) ≤ b) (h4 : b < 2 ^ 62) : Builtin.Range.small a b (-1) = true := by
  unfold Builtin.Range.small
  rw [sizeD]
  simp only [Builtin.Range.rangeFitsLong, Bool.and_eq_true, Bool.or_eq_true, decide_eq_true_eq, beq_iff_eq, show ¬ ((-1 : Int) > 0) by decide, if_false]
  omega
section
variable {X : Cx} {tg : Expr}
theorem rangeD_it {pins : List (Addr × Obj)} {σ : L2.St} {H : Hp} {s : Shared} {R : It → Hp → Prop} {E : Value → Shared → Prop} {hi lo : Int} {t u v : Tok} {tk : Nat} (I : Inv X pins σ H s) (h1 : -(2 ^ 62) ≤ hi) (h2 : hi < 2 ^ 62) (h3 : -(2 ^ 62) ≤ lo) (h4 : lo < 2 ^ 62)
    (q : R (Itd hi (hi - lo).toNat) H) : wpAny (model X.prog X.w) X.A (pyIter (.ref s.heap.objs.size)) (PIE X pins σ tg R) E { s with heap := s.heap.push { cls := .type "range", data := .fields #[.int hi t, .int lo u, .int (-1) v] }, toks := tk } := by
  refine wpAny_pyIter_range (Heap.get?_push_size _ rfl) (fitD h1 h2 h3 h4) ?_
  have I1 : Inv X pins σ H { s with heap := s.heap.push { cls := .type "range", data := .fields #[.int hi t, .int lo u, .int (-1) v] }, toks := tk } := I.kept fun b o e => Heap.get?_push_of_some _ e
  refine ⟨(s.heap.push { cls := .type "range", data := .fields #[.int hi t, .int lo u, .int (-1) v] }).objs.size, [(s.heap.push { cls := .type "range", data := .fields #[.int hi t, .int lo u, .int (-1) v] }).objs.size], _, _, H, rfl,
    I1.kept (t' := tk) fun b o e => Heap.get?_push_of_some _ e, turn_rangeD _ hi (hi - lo).toNat, ?_, fun b hb => ?_, q⟩
  · have e1 : hi + ((0 : Nat) : Int) * (-1) = hi := by simp
    have e2 : (((hi - lo).toNat : Nat) : Int) - ((0 : Nat) : Int) = Builtin.Range.rangeSize hi lo (-1) := by rw [sizeD]; omega
    show IsRangeIter _ _ (hi + ((0 : Nat) : Int) * (-1)) ((((hi - lo).toNat : Nat) : Int) - ((0 : Nat) : Int)) (-1)
    rw [e1, e2]
    exact Heap.get?_push_size _ rfl
  · have e : b = (s.heap.push { cls := .type "range", data := .fields #[.int hi t, .int lo u, .int (-1) v] }).objs.size := by simpa using hb
    subst e
    exact I1.fpOk (Nat.le_refl _) (I1.hok.fresh (Nat.le_refl _))
def iRngD (ta : TA) : TI := fun σ H R => ta σ H fun vs H1 => ∃ i j : Int, vs = [.int i, .int j, .int (-1)] ∧ (-(2 ^ 62) ≤ i ∧ i < 2 ^ 62 ∧ -(2 ^ 62) ≤ j ∧ j < 2 ^ 62) ∧ R (Itd i (i - j).toNat) H1
theorem pi_rangeD {a b c : Expr} {ta : TA} {p pos : Pos} (hg : Gl X "range") (hm : X.mg "range" = none) (ha : PA X [a, b, c] ta) (hs : starEach [a, b, c] X.env = (false, eval a X.env) :: starEach [b, c] X.env := by rfl)
    (hs2 : (backTo pos (starEach [b, c] X.env)).any (·.1) = false := by rfl) : PI X tg (.Call (.Name "range" p) [a, b, c] [] pos) (iRngD ta) := by
  intro pins s σ H R I h
  refine Call_ (ld_blt I hg hm boot_range (PyProof.Rows.callWith_type1 (thn (ha pos pins s σ H _ I h) fun us s1 ⟨vs, H1, I1, r1, q1⟩ => ?_) hs hs2))
  obtain ⟨i, j, e, ⟨q1, q2, q3, q4⟩, q⟩ := q1
  subst e
  obtain ⟨u1, u2, u3, rfl, ⟨t1, rfl⟩, ⟨t2, rfl⟩, ⟨t3, rfl⟩⟩ := Vals.three r1
  exact call_range_3 (by decide) (rangeD_it I1 q1 q2 q3 q4 q) (Or.inl (PyProof.noPylong_small (by decide)))
theorem for_rangeD {hi : Int} {n : Nat} {g : TG} {tb : TS} {D : Ends} {σ : L2.St} {H : Hp} (Pv : Nat → L2.St → Hp → Prop) (h0 : Pv 0 σ H)
    (hs : ∀ i σ H, i < n → Pv i σ H → g (.int (hi - i)) σ H fun σ2 H2 => tb { D with nx := Pv (i + 1), ct := Pv (i + 1), bk := D.nx } σ2 H2) (hd : ∀ σ H, Pv n σ H → D.nx σ H) :
    ∃ W : Nat → Nat → L2.St → Hp → Prop, (∃ m, W 0 m σ H) ∧ ∀ i m σ H, W i m σ H →
      ((Itd hi n).stop i H ∧ D.nx σ H) ∨ ((Itd hi n).go i H ∧ ∃ N : L2.St → Hp → Prop, (∀ σ' H', N σ' H' → ∃ m', m' < m ∧ W (i + 1) m' σ' H') ∧ ∀ x H', (Itd hi n).yld i H x H' → g x σ H' fun σ2 H2 => tb { D with nx := N, ct := N, bk := D.nx } σ2 H2) := by
  refine ⟨fun i m σ H => m = n - i ∧ i ≤ n ∧ Pv i σ H, ⟨n, by simp, Nat.zero_le _, h0⟩, ?_⟩
  rintro i m σ H ⟨rfl, hi, p⟩
  by_cases hlt : i < n
  · refine .inr ⟨hlt, Pv (i + 1), fun σ' H' p' => ⟨n - (i + 1), by omega, rfl, hlt, p'⟩, fun x H' y => ?_⟩
    obtain ⟨e, y⟩ := y
    subst e y
    exact hs i σ _ hlt p
  · have e : i = n := by omega
    subst e
    exact .inl ⟨Nat.le_refl _, hd σ H p⟩
end
section
variable {X : Cx} {a b c d : Expr} {ta tb tc td : TE} {pos : Pos}
end
theorem args_maxD (a d : Value) : argsOk "max" ⟨[a], [(("default" : Str), d)]⟩ := by unfold argsOk; kernel_rfl
section
variable {prog : Program} {w : World} {A : Around}
theorem maxD_loop {R : Result → Shared → Prop} {J : Addr} {fq wq : List Addr} {n : Nat} {G : Nat → Value → Prop} {Z : Nat → Heap → Prop} (W : Walks prog w A.in1 J fq wq n G Z) (bt : Nat → Nat → Bool) (cm : CmpOf prog w A.in1 .Gt G bt) (B : Addr) (hB : B ∉ fq) (d : Value) :
    ∀ (k j : Nat) (s : Shared) (its : Array Value) (c : Nat), n - j = k → j ≤ n → Z j s.heap → ((its = #[] ∧ j = 0) ∨ ∃ b, its = #[b, b] ∧ 0 < j ∧ G (argBest bt (j - 1)) b) →
    s.heap.get? B = some { cls := .type "list", dict := none, data := .seq its c, slots := #[] } →
    (∀ v h' tk, ((n = 0 ∧ v = d) ∨ (0 < n ∧ G (argBest bt (n - 1)) v)) → (∀ b o, b ∉ wq → b ≠ B → s.heap.get? b = some o → h'.get? b = some o) → R (.ok (.ret v)) { s with heap := h', toks := tk }) →
    codeAny (model prog w) A (.builtin "max.loop" ⟨[.ref J, .none, .ref B], [(("default" : Str), d)]⟩) R s := by
  have hBw : B ∉ wq := fun z => hB (W.sub _ z)
  have nm : (toString "max" ++ toString ".loop" : String) = "max.loop" := by decide
  intro k
  induction k with
  | zero =>
    intro j s its c hk hj st hits hS hR
    have ej : j = n := by omega
    subst ej
    refine codeAny_builtin PySem.F.entry_max_loop ?_
    rw [Around.under_plainId PySem.F.plain_max_loop _]
    show wpAny _ A.in1 (seqItems? (.ref B) >>= _) _ _ s
    refine wpAny_bind (wpAny_seqItems hS rfl ?_)
    rcases hits with ⟨rfl, rfl⟩ | ⟨b, rfl, hj0, gb⟩
    · show wpAny _ A.in1 (tryCatch (pyNext (.ref J)) _ >>= _) _ _ s
      refine wpAny_bind (wpAny_tryCatch (W.done s _ _ st fun h' tk kp => ?_))
      show wpAny _ A.in1 (rule _ >>= _) _ _ _
      exact wpAny_bind (wpAny_rule (wpAny_pure (hR d _ tk (.inl ⟨rfl, rfl⟩) fun b o hb _ e => kp b o hb e)))
    · show wpAny _ A.in1 (tryCatch (pyNext (.ref J)) _ >>= _) _ _ s
      refine wpAny_bind (wpAny_tryCatch (W.done s _ _ st fun h' tk kp => ?_))
      show wpAny _ A.in1 (updateSeq B (fun _ => #[]) >>= _) _ _ _
      refine wpAny_bind ?_
      refine wpAny_updateSeq (kp B _ hBw hS) rfl (wpAny_bind (wpAny_letGo (wpAny_pure ?_)))
      exact hR b _ tk (.inr ⟨hj0, gb⟩) fun b o hb hne e => (Heap.get?_update_other _ _ (Ne.symm hne)).trans (kp b o hb e)
  | succ k ih =>
    intro j s its c hk hj st hits hS hR
    have lt : j < n := by omega
    refine codeAny_builtin PySem.F.entry_max_loop ?_
    rw [Around.under_plainId PySem.F.plain_max_loop _]
    show wpAny _ A.in1 (seqItems? (.ref B) >>= _) _ _ s
    refine wpAny_bind (wpAny_seqItems hS rfl ?_)
    rcases hits with ⟨rfl, rfl⟩ | ⟨b, rfl, hj0, gb⟩
    · show wpAny _ A.in1 (tryCatch (pyNext (.ref J)) _ >>= _) _ _ s
      refine wpAny_bind (wpAny_tryCatch (W.item 0 s _ _ lt st fun v h' tk gv st' kp => ?_))
      have hS' := kp B _ hBw hS
      show wpAny _ A.in1 (updateSeq B (fun _ => #[v, v]) >>= _) _ _ _
      refine wpAny_bind ?_
      refine wpAny_updateSeq hS' rfl ?_
      rw [nm]
      refine wpAny_pure ⟨plainId_quiet PySem.F.plain_max_loop _, ih 1 _ #[v, v] _ (by omega) lt (W.frame _ _ _ st' fun b hb o e => ?_) (.inr ⟨v, rfl, by omega, gv⟩) (Heap.get?_update_self _ hS' rfl) fun v' h2 tk2 g2 kp2 => ?_⟩
      · exact (Heap.get?_update_other _ _ (fun z : B = b => hB (by rw [z]; exact hb))).trans e
      · exact hR v' h2 tk2 g2 fun b o hb hne e => kp2 b o hb hne ((Heap.get?_update_other _ _ (Ne.symm hne)).trans (kp b o hb e))
    · show wpAny _ A.in1 (tryCatch (pyNext (.ref J)) _ >>= _) _ _ s
      refine wpAny_bind (wpAny_tryCatch (W.item j s _ _ lt st fun v h' tk gv st' kp => ?_))
      have hS' := kp B _ hBw hS
      show wpAny _ A.in1 (tryCatch (holding [v, v] (richCompare .Gt v b >>= _)) _ >>= _) _ _ _
      refine wpAny_bind (wpAny_tryCatch (wpAny_holding (wpAny_bind (cm j (argBest bt (j - 1)) v b _ _ _ gv gb ?_))))
      refine wpAny_bind (wpAny_holding (wpAny_truthy_bool ?_))
      refine wpAny_bind (wpAny_letGo (wpAny_pure ?_))
      have ea : argBest bt j = if bt j (argBest bt (j - 1)) then j else argBest bt (j - 1) := by
        obtain ⟨i, rfl⟩ : ∃ i, j = i + 1 := ⟨j - 1, by omega⟩
        rfl
      cases hb : bt j (argBest bt (j - 1)) with
      | true =>
        simp only [if_true]
        refine wpAny_bind ?_
        refine wpAny_updateSeq hS' rfl (wpAny_bind (wpAny_letGo ?_))
        rw [nm]
        refine wpAny_pure ⟨plainId_quiet PySem.F.plain_max_loop _, ih (j + 1) _ #[v, v] _ (by omega) lt (W.frame _ _ _ st' fun b hb o e => ?_) (.inr ⟨v, rfl, by omega, ?_⟩) (Heap.get?_update_self _ hS' rfl) fun v' h2 tk2 g2 kp2 => ?_⟩
        · exact (Heap.get?_update_other _ _ (fun z : B = b => hB (by rw [z]; exact hb))).trans e
        · show G (argBest bt j) v
          rw [ea, hb, if_pos rfl]
          exact gv
        · exact hR v' h2 tk2 g2 fun b o hb hne e => kp2 b o hb hne ((Heap.get?_update_other _ _ (Ne.symm hne)).trans (kp b o hb e))
      | false =>
        simp only [Bool.false_eq_true, if_false]
        refine wpAny_bind (wpAny_letGo ?_)
        rw [nm]
        refine wpAny_pure ⟨plainId_quiet PySem.F.plain_max_loop _, ih (j + 1) _ #[b, b] c (by omega) lt st' (.inr ⟨b, rfl, by omega, ?_⟩) hS' fun v' h2 tk2 g2 kp2 => ?_⟩
        · show G (argBest bt j) b
          rw [ea, hb, if_neg (by decide)]
          exact gb
        · exact hR v' h2 tk2 g2 fun b o hb hne e => kp2 b o hb hne (kp b o hb e)
theorem call_treeK {id : String} {b : Builtin} {args : List Value} {kw : List (Str × Value)} {E : Value → Shared → Prop} {s : Shared} {Q : Value → Shared → Prop} (hk : builtinKind id = none) (hp : plainId id = true) (hb : entryFor table id = some b) (ha : argsOk id ⟨args, kw⟩)
    (hc : wpAny (model prog w) A.in1 (b ⟨args, kw⟩) (fun fin t => match fin with
      | .done g => (match (Except.ok g : Result) with | .ok (.ret u) => Q u t | .ok _ => False | .error x => E x t)
      | .again c2 => c2.quiet = true ∧ codeAny (model prog w) A c2 (fun r t => match r with | .ok (.ret u) => Q u t | .ok _ => False | .error x => E x t) t) E s) : wpAny (model prog w) A (call (.builtin id) args kw) Q E s := by
  refine wpAny_call (codeAny_call_builtin hp hb ?_)
  simp only [checkBuiltinCall, hk]
  cases sg : Manifest.signature? id with
  | none => exact wpAny_pure hc
  | some sig =>
    simp only [argsOk, sg] at ha
    show wpAny _ A.in1 (Bind.checkArgs id sig ⟨args, kw⟩) _ _ s
    rw [show Bind.checkArgs id sig ⟨args, kw⟩ = pure () from ha]
    exact wpAny_pure hc
theorem call_maxD {E : Value → Shared → Prop} {s : Shared} {l : Addr} {xs : Array (Int × Tok)} {d : Value} {Q : Value → Shared → Prop} (hh : A.handled = none) (hl : s.heap.IsList l (intItems xs))
    (h : ∀ v h' tk, ((xs.size = 0 ∧ v = d) ∨ (0 < xs.size ∧ (intItems xs)[argBest (fun i j => decide (numAt xs i > numAt xs j)) (xs.size - 1)]? = some v)) → (∀ b o, s.heap.get? b = some o → h'.get? b = some o) → Q v { s with heap := h', toks := tk }) :
    wpAny (model prog w) A (call (.builtin "max") [.ref l] [(("default" : Str), d)]) Q E s := by
  have nm : (toString "max" ++ toString ".loop" : String) = "max.loop" := by decide
  refine call_treeK PySem.F.kind_max PySem.F.plain_max PySem.F.entry_max (args_maxD _ _) ?_
  show wpAny _ A.in1 (Builtin.Builtins.bindParams "max" ["key", "default"] 0 ⟨[], [(("default" : Str), d)]⟩ >>= _) _ _ s
  refine wpAny_bind (wpAny_of_eq (show Builtin.Builtins.bindParams "max" ["key", "default"] 0 ⟨[], [(("default" : Str), d)]⟩ = pure [none, some d] from rfl) ?_)
  refine wpAny_bind (wpAny_pure ?_)
  refine wpAny_bind (iter_intList hl fun s₂ e st hfp hlI => ?_)
  subst e
  refine wpAny_bind (wpAny_newObj_type ?_)
  rw [nm]
  have W := Walks.list (prog := prog) (w := w) (A := A.in1) hh s.heap.objs.size l hlI (intItems xs)
  have hz : (intItems xs).size = xs.size := by simp [intItems]
  have hSf : (s.heap.push { cls := .type "list_iterator", data := .fields #[.ref l, .int 0 0] }).objs.size ∉ [s.heap.objs.size, l] := fun hm => Nat.lt_irrefl _ (hfp _ hm)
  refine wpAny_pure ⟨plainId_quiet PySem.F.plain_max_loop _, maxD_loop W (fun i j => decide (numAt xs i > numAt xs j)) (CmpOf.ints_gt (numAt xs) fun _ _ => intItems_at) _ hSf d _ 0 _ #[] _ rfl (Nat.zero_le _)
    (W.frame _ _ _ st fun b _ o e => Heap.get?_push_of_some _ e) (.inl ⟨rfl, rfl⟩) (Heap.get?_push_size _ rfl) fun v h' tk hP hk => ?_⟩
  rw [hz] at hP
  refine h v h' tk hP (old_kept fun b o hb e => hk b o hb (Nat.ne_of_lt (Heap.lt_size e)) (Heap.get?_push_of_some _ e))
end
section
variable {X : Cx} {x : Str} {p pos kpos : Pos} {e : Expr} {es : List Expr} {ed : Expr} {t tk : TA}
/-- the greatest of a list of whole numbers, else what is given for none -/
def tMaxD (K : PySem.W.Frag) (t tk : TA) : TE := fun σ H Q => t σ H fun vs H1 => tk σ H1 fun ds H2 => ∃ (a : Addr) (ns : List Int) (d : Int), vs = [.ref a] ∧ ds = [.int d] ∧ SqL K H2 a (ns.map V.int) ∧ ∀ M, ((ns = [] ∧ M = d) ∨ (M ∈ ns ∧ ∀ y ∈ ns, y ≤ M)) → Q (.int M) H2
theorem pe_maxD (hc : X.calm = true) (hg : Gl X "max") (hm : X.mg "max" = none) (ha : PA X [e] t) (hk : PK X [⟨some "default", ed, kpos⟩] tk)
    (he : backTo pos (starEach [e] X.env) = (false, eval e X.env) :: backTo pos (starEach [] X.env) := by rfl) (hpl : (backTo pos (starEach [e] X.env)).any (·.1) = false := by rfl)
    (hall : (backToKw pos (keywordEach [⟨some "default", ed, kpos⟩] X.env)).all (·.1.isSome) = true := by rfl) (hkw : (backToKw pos (keywordEach [⟨some "default", ed, kpos⟩] X.env)).any (·.1.isNone) = false := by rfl)
    (hks : (backToKw pos (keywordEach [⟨some "default", ed, kpos⟩] X.env)).filterMap (·.1) = [("default" : Str)] := by rfl) :
    PE X (.Call (.Name "max" p) [e] [⟨some "default", ed, kpos⟩] pos) (tMaxD X.K t tk) := by
  intro pins s σ H Q I h
  refine wpAny_Call_Name_kw (ld_blt I hg hm PyProof.Rows.boot_max ?_ (by decide) (by decide))
  refine callWith_kw (thn (ha pos pins s σ H _ I h) fun us s1 ⟨vs, H1, I1, r1, q1⟩ => thn (hk pos pins s1 σ H1 _ I1 q1) fun ws s2 ⟨ds, H2, I2, r2, q2⟩ => ?_) he hpl hall hkw
  obtain ⟨a, ns, d, rfl, rfl, hp, q⟩ := q2
  rw [hks]
  obtain ⟨u, rfl, rx⟩ := vals1 r1
  cases rx
  obtain ⟨u', rfl, ⟨td, rfl⟩⟩ := vals1 r2
  obtain ⟨its, hi, hl, ee⟩ := Inv.listI I2 hp
  obtain ⟨xs, ex⟩ := hi.allInts.items
  have hns : ns = xs.toList.map (·.1) := by rw [← hi.numsOf, ← nums_intItems, ← ex]
  rw [ex] at hl
  show wpAny _ _ (call (.builtin "max") [.ref a] [(("default" : Str), .int d td)]) _ _ _
  refine call_maxD (I2.ok.hd hc) hl fun v h' tk hv kp => ?_
  rcases hv with ⟨hz, rfl⟩ | ⟨hz, hv⟩
  · have hn : ns = [] := by
      rw [hns]
      exact List.map_eq_nil_iff.mpr (List.eq_nil_of_length_eq_zero (by simpa using hz))
    exact ⟨.int d, H2, I2.kept kp, ⟨_, rfl⟩, q d (.inl ⟨hn, rfl⟩)⟩
  · obtain ⟨t, rfl⟩ := intItems_at hv
    obtain ⟨g1, g2⟩ := argBest_gt (numAt xs) (xs.size - 1)
    refine ⟨.int _, H2, I2.kept kp, ⟨_, rfl⟩, q _ (.inr ⟨?_, fun y hy => ?_⟩)⟩
    · rw [hns, numAt_eq]; exact getD_mem (by rw [List.length_map, Array.length_toList]; omega)
    · rw [hns] at hy
      obtain ⟨j, hj, rfl⟩ := mem_getD hy
      rw [List.length_map, Array.length_toList] at hj
      rw [← numAt_eq]; exact g2 j (by omega)
end
theorem comp_it {J : It} {k : Nat} {sel : List Nat} {g : TG} {te : TE} {σ : L2.St} {Q : VK} {H : Hp} (n : Nat) (Pv : Nat → List V → L2.St → Hp → Prop) (hz : n ≤ sizeLine) (h0 : Pv 0 [] (capOf k sel σ) H) (hlen : ∀ i ys σ H, Pv i ys σ H → ys.length ≤ i)
    (hgo : ∀ i ys σ H, i < n → Pv i ys σ H → J.go i H) (hst : ∀ ys σ H, Pv n ys σ H → J.stop n H)
    (hs : ∀ i ys σ H v H' (C : V → L2.St → Hp → Prop), i < n → Pv i ys σ H → J.yld i H v H' → (∀ y σ H, Pv (i + 1) (ys ++ [y]) σ H → C y σ H) → g v σ H' fun σ2 H2 => te σ2 H2 fun y H3 => C y σ2 H3)
    (hd : ∀ ys σ H, Pv n ys σ H → ∀ p, H p = none → Q (.ref p) (upd H p (.lst ys))) : compG k sel g te σ Q J H := by
  refine ⟨fun i m ys σ' H => m = n - i ∧ i ≤ n ∧ Pv i ys σ' H, ⟨n, by simp, Nat.zero_le _, h0⟩, ?_⟩
  rintro i m ys σ' H ⟨rfl, hi, p⟩
  by_cases hlt : i < n
  · exact .inr ⟨hgo i ys σ' H hlt p, by have := hlen i ys σ' H p; omega, fun v H' y => hs i ys σ' H v H' (fun y σ2 H3 => ∃ m', m' < n - i ∧ m' = n - (i + 1) ∧ i + 1 ≤ n ∧ Pv (i + 1) (ys ++ [y]) σ2 H3) hlt p y fun y σ2 H3 q => ⟨n - (i + 1), by omega, rfl, hlt, q⟩⟩
  · have e : i = n := by omega
    subst e
    exact .inl ⟨hst ys σ' H p, hd ys σ' H p⟩
theorem compF_it {J : It} {k : Nat} {sel : List Nat} {g : TG} {tc : TT} {te : TE} {σ : L2.St} {Q : VK} {H : Hp} (n : Nat) (Pv : Nat → List V → L2.St → Hp → Prop) (hz : n ≤ sizeLine) (h0 : Pv 0 [] (capOf k sel σ) H) (hlen : ∀ i ys σ H, Pv i ys σ H → ys.length ≤ i)
    (hgo : ∀ i ys σ H, i < n → Pv i ys σ H → J.go i H) (hst : ∀ ys σ H, Pv n ys σ H → J.stop n H)
    (hs : ∀ i ys σ H v H' (C : List V → L2.St → Hp → Prop), i < n → Pv i ys σ H → J.yld i H v H' → (∀ ys σ H, Pv (i + 1) ys σ H → C ys σ H) → g v σ H' fun σ2 H2 => tc σ2 H2 fun b H3 => if b = true then te σ2 H3 fun y H4 => C (ys ++ [y]) σ2 H4 else C ys σ2 H3)
    (hd : ∀ ys σ H, Pv n ys σ H → ∀ p, H p = none → Q (.ref p) (upd H p (.lst ys))) : compGF k sel g tc te σ Q J H := by
  refine ⟨fun i m ys σ' H => m = n - i ∧ i ≤ n ∧ Pv i ys σ' H, ⟨n, by simp, Nat.zero_le _, h0⟩, ?_⟩
  rintro i m ys σ' H ⟨rfl, hi, p⟩
  by_cases hlt : i < n
  · exact .inr ⟨hgo i ys σ' H hlt p, by have := hlen i ys σ' H p; omega, fun v H' y => hs i ys σ' H v H' (fun ys σ2 H3 => ∃ m', m' < n - i ∧ m' = n - (i + 1) ∧ i + 1 ≤ n ∧ Pv (i + 1) ys σ2 H3) hlt p y fun ys σ2 H3 q => ⟨n - (i + 1), by omega, rfl, hlt, q⟩⟩
  · have e : i = n := by omega
    subst e
    exact .inl ⟨hst ys σ' H p, hd ys σ' H p⟩
section
variable {X : Cx} {fsc scope : Scope} {N xs ys : List Str} {sel : List Nat}
/-- y = [.. if ..] -/
theorem ps_compF {i : Nat} {y : Str} {elt iter tg cnd : Expr} {pos py spos : Pos} {te : TE} {tc : TT} {g : TG} {wi : TI} (S : CompSc fsc N xs ys sel scope) (eS : X.env.scope = fsc) (eN : X.N = N) (hc : X.calm = true) (hi : PI X tg iter wi)
    (hg : ∀ cl C s₀ H₀ ex pn, PG (cxC X (xs ++ ys) scope cl C s₀ H₀ ex pn) tg g) (he : ∀ cl C s₀ H₀ ex pn, PE (cxC X (xs ++ ys) scope cl C s₀ H₀ ex pn) elt te) (hcn : ∀ cl C s₀ H₀ ex pn, PT (cxC X (xs ++ ys) scope cl C s₀ H₀ ex pn) cnd tc)
    (hN : X.N.Nodup) (hiN : X.N[i]? = some y) (hy : X.env.scope.names.lookup y = some .local)
    (hsw : swapsWith (.ListComp elt [⟨tg, iter, [cnd], 0⟩] scope pos) (some (.Name y py)) spos.line X.env = pure true)
    (hs : ∀ x, foldedSetIterable iter X.env x = pure x := by intro _; rfl) : PS X (.Assign [.Name y py] (.ListComp elt [⟨tg, iter, [cnd], 0⟩] scope pos) spos) (tAsg (tCompF xs.length sel wi g tc te) (gName i)) := by
  intro pins s σ H D I h
  rw [exec_Assign_Name_used _ _ _ _ hsw]
  refine wpAny_bind (wpAny_standAt (wpAny_bind ?_))
  have hclos : closureFor scope X.env = pure (clsOf scope.names X.env []) := closure_eq fun z hz hk => I.ok.has z.1 (.inl (by rw [← eS] at S; exact S.free z hz hk))
  show wpAny _ X.A (do let _ ← comprehension (.ListComp elt [⟨tg, iter, [cnd], 0⟩] scope pos) scope X.env _ (newList []) false (eval iter X.env) (some (assign (.Name y py) X.env))) _ _ s
  refine wpAny_bind (wpAny_mono (wpAny_comprehension_free (use := some (assign (.Name y py) X.env)) (Q := fun _ s' => SP X pins D .next s') rfl hs hclos S.kind S.names
    (thn (hi pins s σ H _ I h) fun v s1 h1 => thn h1 fun itv s2 h2 => ?_)) (fun _ s' hq => wpAny_pure (wpAny_pure hq)) fun _ _ e => e)
  obtain ⟨it, fp, tn, J, H2, e, I2, T, st2, f2, W, w0, turn⟩ := h2
  subst e
  refine comp_coreF (Fin := fun ys H => ∀ p, H p = none → D.nx (σ.set i (some (.ref p))) (upd H p (.lst ys))) (RR := fun acc C => compPost (model X.prog X.w) X.A X.xe (some (assign (.Name y py) X.env)) (fun _ s' => SP X pins D .next s') acc C) S eS eN hc hg he hcn I2 T st2 f2 w0 turn ?_
  intro Da C s' zs H' m' fin nD IX hn hfp
  show wpAny _ X.A (assign (.Name y py) X.env (.ref Da)) _ _ _
  refine wpAny_assign_Name (store_ok2 (v := .ref Da) IX hN hiN (.inl hy) rfl (fun s'' I'' ⟨a, hsa, ha⟩ => ?_) (.inr hy))
  obtain ⟨f0, f1, f2, f3, f4, f5⟩ := hfp
  have aC : C ≠ a := by
    rcases ha with rfl | ha
    · exact f1
    · exact fun z => f4 y a ha z.symm
  refine ⟨m', hn.sameBut hsa aC, fun h' hsb => ?_⟩
  exact ⟨_, _, I''.turned (it := C) (t' := s''.toks) (fun b o hb e => hsb.extBut b o hb e) f0 f1 f3 f4 f5, fin Da nD⟩
end
end LX
namespace LX
open TM
def turn1 {α : Type} (T : List α) (x : Nat × Nat) : List α := T.take x.1 ++ ((T.drop x.1).take (x.2 - x.1)).reverse ++ T.drop x.2
theorem turn1_at {α : Type} (A B C : List α) : turn1 (A ++ (B ++ C)) (A.length, A.length + B.length) = A ++ (B.reverse ++ C) := by
  unfold turn1
  simp only
  rw [List.take_left' rfl, List.drop_left' rfl, show A.length + B.length - A.length = B.length by omega, List.take_left' rfl, ← List.drop_drop, List.drop_left' rfl, List.drop_left' rfl, List.append_assoc]
theorem turn_runs {α : Type} (q : α → Bool) : ∀ (xs pre : List α), ((pcsF pre.length none (xs.map q)).foldl turn1 (pre ++ xs) = pre ++ blk q List.reverse [] xs) ∧
    ∀ acc : List α, (pcsF (pre.length + acc.length) (some pre.length) (xs.map q)).foldl turn1 (pre ++ (acc ++ xs)) = pre ++ blk q List.reverse acc xs
  | [], pre => ⟨by simp [pcsF, blk], fun acc => by
      have := turn1_at pre acc []
      simp only [List.map_nil, pcsF, List.foldl_cons, List.foldl_nil, blk]
      rw [this]; simp⟩
  | x :: xs, pre => by
    refine ⟨?_, fun acc => ?_⟩
    · cases h : q x with
      | true =>
        have ih := (turn_runs q xs pre).2 [x]
        simp only [List.map_cons, h, pcsF, blk, cond_true, List.nil_append]
        simpa using ih
      | false =>
        have ih := (turn_runs q xs (pre ++ [x])).1
        simp only [List.map_cons, h, pcsF, blk, cond_false]
        simpa using ih
    · cases h : q x with
      | true =>
        have ih := (turn_runs q xs pre).2 (acc ++ [x])
        simp only [List.map_cons, h, pcsF, blk, cond_true]
        simpa [Nat.add_assoc] using ih
      | false =>
        have ih := (turn_runs q xs (pre ++ (acc.reverse ++ [x]))).1
        simp only [List.map_cons, h, pcsF, blk, cond_false, List.foldl_cons]
        rw [turn1_at pre acc (x :: xs)]
        have e : (pre ++ (acc.reverse ++ [x])).length = pre.length + acc.length + 1 := by simp; omega
        rw [e] at ih
        simpa using ih
theorem turn_blocks {α : Type} (q : α → Bool) (xs : List α) : (pcs (xs.map q)).foldl turn1 xs = blocks q List.reverse xs := (turn_runs q xs []).1
/-- the longest rows of neighbours among rising places -/
def lstep (acc : List (Nat × Nat)) (p : Nat) : List (Nat × Nat) := match acc.getLast? with
  | some y => if y.2 = p then acc.dropLast ++ [(y.1, p + 1)] else acc ++ [(p, p + 1)]
  | none => acc ++ [(p, p + 1)]
def lrows (ps : List Nat) : List (Nat × Nat) := ps.foldl lstep []
def plF : Nat → List Bool → List Nat
  | _, [] => []
  | k, true :: xs => k :: plF (k + 1) xs
  | k, false :: xs => plF (k + 1) xs
theorem lstep_new {acc : List (Nat × Nat)} {p : Nat} (h : ∀ y, acc.getLast? = some y → y.2 < p) : lstep acc p = acc ++ [(p, p + 1)] := by
  unfold lstep
  cases e : acc.getLast? with
  | none => rfl
  | some y =>
    have := h y e
    simp only
    rw [if_neg (by omega)]
theorem lstep_on (acc : List (Nat × Nat)) (b p : Nat) : lstep (acc ++ [(b, p)]) p = acc ++ [(b, p + 1)] := by
  unfold lstep
  rw [List.getLast?_concat]
  simp
theorem lrows_pcsF : ∀ (xs : List Bool) (k : Nat) (acc : List (Nat × Nat)), ((∀ y, acc.getLast? = some y → y.2 < k) → (plF k xs).foldl lstep acc = acc ++ pcsF k none xs) ∧ ∀ b, (plF k xs).foldl lstep (acc ++ [(b, k)]) = acc ++ pcsF k (some b) xs
  | [], k, acc => ⟨fun _ => by simp [plF, pcsF], fun b => by simp [plF, pcsF]⟩
  | true :: xs, k, acc => ⟨fun h => by
      have ih := (lrows_pcsF xs (k + 1) acc).2 k
      simp only [plF, pcsF, List.foldl_cons]
      rw [lstep_new h]; exact ih, fun b => by
      have ih := (lrows_pcsF xs (k + 1) acc).2 b
      simp only [plF, pcsF, List.foldl_cons]
      rw [lstep_on]; exact ih⟩
  | false :: xs, k, acc => ⟨fun h => by
      have ih := (lrows_pcsF xs (k + 1) acc).1 (fun y e => by have := h y e; omega)
      simp only [plF, pcsF]
      exact ih, fun b => by
      have ih := (lrows_pcsF xs (k + 1) (acc ++ [(b, k)])).1 (fun y e => by rw [List.getLast?_concat] at e; cases e; simp)
      simp only [plF, pcsF]
      rw [ih, List.append_assoc]; rfl⟩
theorem plF_range (q : Nat → Bool) : ∀ (n k : Nat), plF k ((List.range' k n).map q) = (List.range' k n).filter q
  | 0, k => rfl
  | n + 1, k => by
    have ih := plF_range q n (k + 1)
    rw [List.range'_succ, List.map_cons]
    cases h : q k with
    | true => rw [List.filter_cons_of_pos h]; simp only [plF]; rw [ih]
    | false => rw [List.filter_cons_of_neg (by rw [h]; decide)]; simp only [plF]; rw [ih]
theorem lrows_filter (q : Nat → Bool) (n : Nat) : lrows ((List.range n).filter q) = pcs ((List.range n).map q) := by
  have e := plF_range q n 0
  rw [← List.range_eq_range'] at e
  rw [← e]
  have := (lrows_pcsF ((List.range n).map q) 0 []).1 (fun y e => by simp at e)
  rw [List.nil_append] at this
  exact this
theorem blocks_pat {α : Type} {q r : α → Bool} {F : List α → List α} (hF : ∀ xs, (F xs).Perm xs) (hqr : ∀ x, q x = true → r x = true) : ∀ ps, (blocks q F ps).map r = ps.map r := by
  have one : ∀ xs, (∀ x ∈ xs, q x = true) → (F xs).map r = xs.map r := fun xs h => by
    have a : ∀ l : List α, (∀ x ∈ l, q x = true) → l.map r = List.replicate l.length true := fun l hl => List.eq_replicate_iff.mpr ⟨by simp, fun y hy => by
      obtain ⟨x, hx, rfl⟩ := List.mem_map.mp hy
      exact hqr x (hl x hx)⟩
    rw [a xs h, a (F xs) (fun x hx => h x ((hF xs).mem_iff.mp hx)), (hF xs).length_eq]
  refine dec_ind q (fun xs h => ?_) (fun xs p ys h hp ih => ?_)
  · rw [blocks_all h]; exact one xs h
  · rw [blocks_step h hp, List.map_append, List.map_append, List.map_cons, List.map_cons, one xs h, ih]
theorem ord_pat {lv : Nat → Int} {L : Int} : ∀ (f : Nat) (l : Int) (ps : List Nat), L ≤ l + 1 → (ord lv f l ps).map (fun p => decide (L ≤ lv p)) = ps.map (fun p => decide (L ≤ lv p))
  | 0, l, ps, _ => rfl
  | f + 1, l, ps, h => by
    refine blocks_pat (F := fun xs => (ord lv f (l + 1) xs).reverse) (fun xs => revPerm f (l + 1) xs) (fun x hx => ?_) ps
    have := of_decide_eq_true hx
    exact decide_eq_true (by omega)
/-- one level's turns, by the written places -/
theorem level_turns {lv : Nat → Int} {n f : Nat} {l : Int} : (lrows ((List.range n).filter fun p => decide (l + 1 ≤ lv p))).foldl turn1 (ord lv f (l + 1) (List.range n)) = ord lv (f + 1) l (List.range n) := by
  rw [lrows_filter, ← ord_pat f (l + 1) (List.range n) (by omega), turn_blocks]
  exact turn_ord (List.range n)
theorem pcsF_in : ∀ (xs : List Bool) (k : Nat), (∀ y ∈ pcsF k none xs, y.1 ≤ y.2 ∧ y.2 ≤ k + xs.length) ∧ ∀ b, b ≤ k → ∀ y ∈ pcsF k (some b) xs, y.1 ≤ y.2 ∧ y.2 ≤ k + xs.length
  | [], k => ⟨by simp [pcsF], fun b hb y hy => by simp [pcsF] at hy; subst hy; simpa using hb⟩
  | true :: xs, k => ⟨fun y hy => by
      have := (pcsF_in xs (k + 1)).2 k (by omega) y (by simpa [pcsF] using hy)
      simp only [List.length_cons]; omega, fun b hb y hy => by
      have := (pcsF_in xs (k + 1)).2 b (by omega) y (by simpa [pcsF] using hy)
      simp only [List.length_cons]; omega⟩
  | false :: xs, k => ⟨fun y hy => by
      have := (pcsF_in xs (k + 1)).1 y (by simpa [pcsF] using hy)
      simp only [List.length_cons]; omega, fun b hb y hy => by
      simp only [pcsF, List.mem_cons] at hy
      rcases hy with rfl | hy
      · simp only [List.length_cons]; omega
      · have := (pcsF_in xs (k + 1)).1 y hy
        simp only [List.length_cons]; omega⟩
theorem pcs_in {xs : List Bool} : ∀ y ∈ pcs xs, y.1 ≤ y.2 ∧ y.2 ≤ xs.length := fun y hy => by
  have := (pcsF_in xs 0).1 y hy
  omega
theorem turn1_len {α : Type} {T : List α} {x : Nat × Nat} (h1 : x.1 ≤ x.2) (h2 : x.2 ≤ T.length) : (turn1 T x).length = T.length := by
  unfold turn1
  simp only [List.length_append, List.length_take, List.length_reverse, List.length_drop]
  omega
def seenI (T : List Nat) (n i : Nat) : List Nat := (List.range n).map fun p => if T.idxOf p < i then T.idxOf p else 0
theorem seenI_len (T : List Nat) (n i : Nat) : (seenI T n i).length = n := by simp [seenI]
theorem seenI_zero (T : List Nat) (n : Nat) : seenI T n 0 = List.replicate n 0 := by
  refine List.eq_replicate_iff.mpr ⟨seenI_len T n 0, fun y hy => ?_⟩
  obtain ⟨p, _, rfl⟩ := List.mem_map.mp hy
  rfl
theorem seenI_step {T : List Nat} {n i : Nat} (hn : T.Nodup) (hi : i < T.length) : (seenI T n i).set T[i] i = seenI T n (i + 1) := by
  refine List.ext_getElem (by simp [seenI]) fun j h1 h2 => ?_
  rw [seenI_len] at h2
  rw [List.getElem_set]
  simp only [seenI, List.getElem_map, List.getElem_range]
  by_cases e : T[i] = j
  · rw [if_pos e, ← e, hn.idxOf_getElem i hi, if_pos (by omega)]
  · rw [if_neg e]
    have ne : T.idxOf j ≠ i := fun q => by
      have hl : T.idxOf j < T.length := by omega
      have := List.getElem_idxOf hl
      simp only [q] at this
      exact e this
    by_cases c : T.idxOf j < i
    · rw [if_pos c, if_pos (by omega)]
    · rw [if_neg c, if_neg (by omega)]
theorem seenI_end {T : List Nat} {n : Nat} (h : ∀ p, p < n → p ∈ T) : seenI T n T.length = (List.range n).map fun p => T.idxOf p := by
  refine List.map_congr_left fun p hp => ?_
  rw [if_pos (List.idxOf_lt_length_iff.mpr (h p (List.mem_range.mp hp)))]
end LX
namespace LX
open PySem PySem.Spec PyProof.Rows L2 TM
theorem Def.mono {P : Program} {w : World} {K : PySem.W.Frag} {mg : Str → Option Value} {base : Heap} {x : Str} {j k : Nat} {ps : List Str} {sp : Sp} (D : Def P w K mg base x j ps sp) (h : j ≤ k) : Def P w K mg base x k ps sp := by
  obtain ⟨f, fd, F, r⟩ := D
  exact ⟨f, fd, F.mono h, r⟩
theorem ix_last (n : Nat) : ixN (n + 1) (-1) = some n := by
  unfold ixN
  rw [if_neg (by omega), if_pos (by omega)]
  congr 1
  omega
theorem set_last {α : Type} (l : List α) (v u : α) : (l ++ [v]).set l.length u = l ++ [u] := by
  induction l with
  | nil => rfl
  | cons x l ih => simp [ih]
theorem toF_snoc (l : List (Nat × Nat)) (x : Nat × Nat) : toF (l ++ [x]) = toF l ++ [(some (x.1 : Int), some (x.2 : Int))] := by simp [toF]
theorem toF_get {l : List (Nat × Nat)} {i : Nat} {y : Face} (h : (toF l)[i]? = some y) : ∃ x, l[i]? = some x ∧ y = (some (x.1 : Int), some (x.2 : Int)) := by
  unfold toF at h
  rw [List.getElem?_map] at h
  cases e : l[i]? with
  | none => rw [e] at h; cases h
  | some x => rw [e] at h; exact ⟨x, rfl, (Option.some.inj h).symm⟩
theorem TupsAt.split {H : Hp} {as : List Addr} {prs : List Face} {x : Face} (h : TupsAt H as (prs ++ [x])) : ∃ as' a, as = as' ++ [a] ∧ TupsAt H as' prs ∧ H a = some (.tup [faceV x.1, faceV x.2]) := by
  induction prs generalizing as with
  | nil =>
    cases h with
    | cons r t => cases t; exact ⟨[], _, rfl, .nil, r⟩
  | cons y prs ih =>
    cases h with
    | cons r t =>
      obtain ⟨as', a, rfl, h1, h2⟩ := ih t
      exact ⟨_ :: as', a, rfl, .cons r h1, h2⟩
theorem lrows_snoc (ps : List Nat) (m : Nat) : lrows (ps ++ [m]) = lstep (lrows ps) m := by
  unfold lrows
  rw [List.foldl_append]
  rfl
theorem lrows_le (ps : List Nat) : (lrows ps).length ≤ ps.length := by
  have key : ∀ (ps : List Nat) (acc : List (Nat × Nat)), (ps.foldl lstep acc).length ≤ acc.length + ps.length := by
    intro ps
    induction ps with
    | nil => intro acc; simp
    | cons p ps ih =>
      intro acc
      have h1 : (lstep acc p).length ≤ acc.length + 1 := by
        unfold lstep
        split
        · split
          · simp
          · simp
        · simp
      have := ih (lstep acc p)
      simp only [List.foldl_cons, List.length_cons]
      omega
  have := key ps []
  simpa [lrows] using this
def spRows (K : PySem.W.Frag) : Sp := fun vs H Q _ => ∃ (a : Addr) (ps : List Nat), vs = [.ref a] ∧ SqL K H a (vN ps) ∧ ps.length ≤ 60 ∧ ∀ (p : Addr) (as : List Addr) (H' : Hp), Same H H' → H p = none → H' p = some (.lst (as.map V.ref)) → TupsAt H' as (toF (lrows ps)) → Q (.ref p) H'
def spTurn (K : PySem.W.Frag) : Sp := fun vs H Q _ => ∃ (a : Addr) (T : List Nat) (x : Nat × Nat), vs = [.ref a, .int (x.1 : Int), .int (x.2 : Int)] ∧ SqL K H a (vN T) ∧ x.1 ≤ x.2 ∧ x.2 ≤ T.length ∧ T.length ≤ 60 ∧ ∀ (p : Addr) (H' : Hp), Same H H' → H p = none → H' p = some (.lst (vN (turn1 T x))) → Q (.ref p) H'
theorem cut_to (T : List Nat) {i : Nat} (h : i ≤ T.length) : cutV (vN T) none (some (i : Int)) = vN (T.take i) := by
  unfold cutV
  rw [HT.sIx_none, HT.sIx_nat, vN_len, Nat.min_eq_left h]
  show ((T.map _).drop _).take _ = _
  rw [List.drop_zero, ← List.map_take]
  rfl
theorem cut_from (T : List Nat) {i : Nat} (h : i ≤ T.length) : cutV (vN T) (some (i : Int)) none = vN (T.drop i) := by
  unfold cutV
  rw [HT.sIx_none, HT.sIx_nat, vN_len, Nat.min_eq_left h]
  show ((T.map _).drop _).take _ = _
  rw [← List.map_drop, List.take_of_length_le (by simp)]
theorem cut_mid (T : List Nat) {i j : Nat} (h : i ≤ j) (h' : j ≤ T.length) : cutV (vN T) (some (i : Int)) (some (j : Int)) = vN ((T.drop i).take (j - i)) := by
  rw [vN_cut, Nat.min_eq_left h', Nat.min_eq_left (Nat.le_trans h h')]
/-- the places of a level or more -/
def highs (row : List Int) (L : Int) (n : Nat) : List Nat := (List.range n).filter fun p => decide (L ≤ lvl row p)
theorem highs_len (row : List Int) (L : Int) (n : Nat) : (highs row L n).length ≤ n := by
  have := List.length_filter_le (fun p => decide (L ≤ lvl row p)) (List.range n)
  rwa [List.length_range] at this
theorem highs_succ (row : List Int) (L : Int) (n : Nat) : highs row L (n + 1) = highs row L n ++ (if L ≤ lvl row n then [n] else []) := by
  unfold highs
  rw [List.range_succ, List.filter_append]
  congr 1
  by_cases h : L ≤ lvl row n
  · rw [if_pos h, List.filter_cons_of_pos (by simpa using h)]; rfl
  · rw [if_neg h, List.filter_cons_of_neg (by simpa using h)]; rfl
theorem highs_rows (row : List Int) (L : Int) : ∀ y ∈ lrows (highs row L row.length), y.1 ≤ y.2 ∧ y.2 ≤ row.length := by
  unfold highs
  rw [lrows_filter]
  intro y hy
  have := pcs_in y hy
  rwa [List.length_map, List.length_range] at this
theorem highs_turn (row : List Int) (f : Nat) (L : Int) : (lrows (highs row L row.length)).foldl turn1 (ord (lvl row) f L (List.range row.length)) = ord (lvl row) (f + 1) (L - 1) (List.range row.length) := by
  have := level_turns (lv := lvl row) (n := row.length) (f := f) (l := L - 1)
  rw [show L - 1 + 1 = L by omega] at this
  exact this
theorem turns_len {T : List Nat} : ∀ {l : List (Nat × Nat)}, (∀ y ∈ l, y.1 ≤ y.2 ∧ y.2 ≤ T.length) → (l.foldl turn1 T).length = T.length := by
  intro l
  induction l generalizing T with
  | nil => intro _; rfl
  | cons x l ih =>
    intro h
    have hx := h x (by simp)
    have e := turn1_len hx.1 hx.2
    rw [List.foldl_cons, ih (fun y hy => by rw [e]; exact h y (by simp [hy])), e]
theorem foldl_take_succ {α β : Type} (f : β → α → β) (b : β) {l : List α} {i : Nat} {x : α} (h : l[i]? = some x) : (l.take (i + 1)).foldl f b = f ((l.take i).foldl f b) x := by
  rw [take_snoc h, List.foldl_append]
  rfl
theorem row_get {row : List Int} {i : Nat} {x : V} (h : (vI row)[i]? = some x) : x = V.int (lvl row i) := by
  obtain ⟨n, hn, rfl⟩ := ints_get h
  unfold lvl
  rw [List.getD_eq_getElem?_getD, hn]
  rfl
theorem theOrd_top {row : List Int} (h : RowOk row) {M : Int} (hM : (row = [] ∧ M = 0) ∨ (M ∈ row ∧ ∀ y ∈ row, y ≤ M)) : 0 ≤ M ∧ M ≤ 9 ∧ ord (lvl row) M.toNat 0 (List.range row.length) = theOrd row := by
  have hb : 0 ≤ M ∧ M ≤ 9 := by
    rcases hM with ⟨_, rfl⟩ | ⟨hm, _⟩
    · decide
    · exact ⟨h.lo M hm, h.hi M hm⟩
  refine ⟨hb.1, hb.2, ?_⟩
  unfold theOrd
  refine (ord_fuel (fun p hp => ?_) 9 (by omega)).symm
  have hp := List.mem_range.mp hp
  rcases hM with ⟨rfl, _⟩ | ⟨_, hm⟩
  · simp at hp
  · have e : lvl row p ∈ row := by
      unfold lvl
      rw [List.getD_eq_getElem?_getD, List.getElem?_eq_getElem hp]
      exact List.getElem_mem hp
    have := hm _ e
    omega
theorem zeros_vN (n : Nat) : (List.replicate n [V.int 0]).flatten = vN (List.replicate n 0) := by
  induction n with
  | zero => rfl
  | succ n ih => rw [List.replicate_succ, List.flatten_cons, ih, List.replicate_succ]; rfl
theorem vN_set (l : List Nat) (i n : Nat) : (vN l).set i (V.int (n : Int)) = vN (l.set i n) := by
  show (l.map _).set i _ = _
  rw [← List.map_set]
theorem ix_nat {n i : Nat} (h : i < n) : ixN n (i : Int) = some i := by
  unfold ixN
  rw [if_pos (by omega), if_pos (by omega)]
  rfl
def spEdgeB : Sp := fun vs H Q _ => ∃ l s : Int, vs = [.int l, .int s] ∧ Q (.int (s + l % 2)) H
def spEdgeE : Sp := fun vs H Q _ => ∃ l s : Int, vs = [.int l, .int s] ∧ Q (.int (s + 1 - l % 2)) H
end LX
namespace LX
open PySem PySem.Spec PyProof.Rows L2
open Sem (wp)
abbrev IsZipB (h : Heap) (z TI TO : Addr) (f0 : Value) (fl : Bool) : Prop := h.get? z = some { cls := .type "zip", dict := none, data := .fields #[f0, .bool fl, .bool false, .ref TI, .ref TO], slots := #[] }
section
variable {prog : Program} {w : World} {A : Around} {E : Value → Shared → Prop} {s : Shared}
theorem wpAny_alive {M : Model} {a : Addr} {Q : Option Obj → Shared → Prop} (h : Q (s.heap.get? a) s) : wpAny M A (loadIfAlive a) Q E s := fun _ _ _ => h
theorem zip_taken {z TI TO : Addr} {a0 : Nat} {o0 : Obj} {fl : Bool} {Q : Bool → Shared → Prop} (hz : IsZipB s.heap z TI TO (rawInt a0) fl) (ho : s.heap.get? a0 = some o0)
    (h : ∀ h', IsZipB h' z TI TO (rawInt a0) true → Heap.SameBut z s.heap h' → Q false { s with heap := h' }) : wpAny (model prog w) A (Builtin.SmallTypes.ownedTupleIsFree (.ref z)) Q E s := by
  unfold Builtin.SmallTypes.ownedTupleIsFree
  refine wpAny_bind (wpAny_field hz rfl (x := rawInt a0) rfl ?_)
  show wpAny _ _ (loadIfAlive ((a0 : Int)).toNat >>= _) _ _ _
  refine wpAny_bind (wpAny_alive ?_)
  rw [Int.toNat_natCast, ho]
  show wpAny _ _ (field (.ref z) 1 >>= _) _ _ _
  refine wpAny_bind (wpAny_field hz rfl (x := .bool fl) rfl ?_)
  cases fl with
  | true => exact wpAny_bind (wpAny_pure (wpAny_pure (h s.heap hz (Heap.SameBut.refl ..))))
  | false =>
    show wpAny _ _ (setField (.ref z) 1 (.bool true) >>= _) _ _ _
    refine wpAny_bind (wpAny_setField_rec hz (by simp) fun g1 hz₁ sb1 => wpAny_pure (h g1 hz₁ sb1))
theorem zip2_plain {z TI TO i1 i2 : Addr} {fp1 fp2 : List Addr} {n1 n2 k : Nat} {P1 P2 : Nat → Value → Prop} {St1 St2 : Nat → Heap → Prop} {a0 : Nat} {o0 : Obj} {fl : Bool} {Q : Value → Shared → Prop}
    (D1 : Draws prog w A i1 fp1 n1 P1 St1) (D2 : Draws prog w A i2 fp2 n2 P2 St2) (z1 : z ∉ fp1) (z2 : z ∉ fp2) (i12 : i1 ∉ fp2) (i21 : i2 ∉ fp1) (y1 : i1 ≠ z) (y2 : i2 ≠ z)
    (hz : IsZipB s.heap z TI TO (rawInt a0) fl) (ho : s.heap.get? a0 = some o0) (hTI : IsPair s.heap TI (.ref i1) (.ref i2)) (h1 : St1 k s.heap) (h2 : St2 k s.heap) (k1 : k < n1) (k2 : k < n2)
    (hQ : ∀ x y h' tk, P1 k x → P2 k y → IsZipB h' z TI TO (rawInt a0) true → St1 (k + 1) h' → St2 (k + 1) h' → IsPair h' s.heap.objs.size x y →
      (∀ c o, c ≠ z → c ≠ i1 → c ≠ i2 → s.heap.get? c = some o → h'.get? c = some o) → Q (.ref s.heap.objs.size) { s with heap := h', toks := tk }) :
    wpAny (model prog w) A (Builtin.«zip.__next__» ⟨[.ref z], []⟩) (fun fin s' => ∃ v, fin = .done (.ret v) ∧ Q v s') E s := by
  show wpAny _ _ (field (.ref z) 2 >>= _) _ _ _
  refine wpAny_bind (wpAny_field hz rfl (x := .bool false) rfl ?_)
  show wpAny _ _ (field (.ref z) 3 >>= _) _ _ _
  refine wpAny_bind (wpAny_field hz rfl (x := .ref TI) rfl ?_)
  refine wpAny_bind (wpAny_seqItems hTI rfl ?_)
  show wpAny _ _ (Builtin.SmallTypes.ownedTupleIsFree (.ref z) >>= _) _ _ _
  refine wpAny_bind (zip_taken hz ho fun g1 hz₁ sb1 => ?_)
  simp only [Bool.false_eq_true, if_false]
  refine wpAny_bind (wpAny_arrayLoop ?_)
  simp only [List.forIn_cons, List.forIn_nil]
  refine wpAny_bind (wpAny_bind (wpAny_holding ?_))
  show wpAny _ _ (Builtin.SmallTypes.nextOf (.ref i1) >>= _) _ _ _
  have a1 : St1 k g1 := D1.frame _ _ _ h1 fun c hc o e => sb1.extBut c o (fun q => z1 (q ▸ hc)) e
  refine wpAny_bind (D1.item k _ _ _ k1 a1 fun x g2 tk1 hx b1 sb2 => wpAny_pure ?_)
  replace sb2 : Heap.SameBut i1 g1 g2 := sb2
  refine wpAny_pure ?_
  refine wpAny_bind (wpAny_bind (wpAny_holding ?_))
  show wpAny _ _ (Builtin.SmallTypes.nextOf (.ref i2) >>= _) _ _ _
  have a2 : St2 k g2 := D2.frame _ _ _ h2 fun c hc o e => sb2.extBut c o (fun q => i12 (q ▸ hc)) (sb1.extBut c o (fun q => z2 (q ▸ hc)) e)
  refine wpAny_bind (D2.item k _ _ _ k2 a2 fun y g3 tk2 hy b2 sb3 => wpAny_pure ?_)
  replace sb3 : Heap.SameBut i2 g2 g3 := sb3
  refine wpAny_pure (wpAny_pure ?_)
  refine wpAny_bind (wpAny_newTuple ?_ (by show 2 ≤ sizeLine; decide))
  have hsz : g3.objs.size = s.heap.objs.size := by rw [sb3.1, sb2.1, sb1.1]
  refine wpAny_pure ⟨_, rfl, ?_⟩
  show Q (.ref g3.objs.size) _
  have up : ∀ c o, g3.get? c = some o → (g3.push { cls := .type "tuple", data := .seq #[x, y] }).get? c = some o := fun c o e => Heap.get?_push_of_some _ e
  have t4 : IsPair (g3.push { cls := .type "tuple", data := .seq #[x, y] }) g3.objs.size x y := Heap.get?_push_size _ rfl
  have z4 : IsZipB g3 z TI TO (rawInt a0) true := sb3.extBut _ _ y2.symm (sb2.extBut _ _ y1.symm hz₁)
  have e1 : St1 (k + 1) g3 := D1.frame _ _ _ b1 fun c hc o e => sb3.extBut c o (fun q => i21 (q ▸ hc)) e
  rw [hsz] at t4 ⊢
  exact hQ x y _ _ hx hy (up _ _ z4) (D1.frame _ _ _ e1 fun c _ o e => up c o e) (D2.frame _ _ _ b2 fun c _ o e => up c o e) t4
    fun c o c1 c2 c3 e => up c o (sb3.extBut _ _ c3 (sb2.extBut _ _ c2 (sb1.extBut _ _ c1 e)))
theorem zip_endB {z TI TO i1 i2 : Addr} {fp1 : List Addr} {n1 : Nat} {P1 : Nat → Value → Prop} {St1 : Nat → Heap → Prop} {a0 : Nat} {o0 : Obj} {fl : Bool} {Q : Fin → Shared → Prop}
    (D1 : Draws prog w A i1 fp1 n1 P1 St1) (z1 : z ∉ fp1) (hz : IsZipB s.heap z TI TO (rawInt a0) fl) (ho : s.heap.get? a0 = some o0) (hTI : IsPair s.heap TI (.ref i1) (.ref i2)) (h1 : St1 n1 s.heap)
    (hE : ∀ h' e, (∀ c o, c ≠ z → c ≠ i1 → s.heap.get? c = some o → h'.get? c = some o) → (∃ o, h'.get? e = some o ∧ o.cls = .type "StopIteration") → E (.ref e) { s with heap := h' }) :
    wpAny (model prog w) A (Builtin.«zip.__next__» ⟨[.ref z], []⟩) Q E s := by
  show wpAny _ _ (field (.ref z) 2 >>= _) _ _ _
  refine wpAny_bind (wpAny_field hz rfl (x := .bool false) rfl ?_)
  show wpAny _ _ (field (.ref z) 3 >>= _) _ _ _
  refine wpAny_bind (wpAny_field hz rfl (x := .ref TI) rfl ?_)
  refine wpAny_bind (wpAny_seqItems hTI rfl ?_)
  show wpAny _ _ (Builtin.SmallTypes.ownedTupleIsFree (.ref z) >>= _) _ _ _
  refine wpAny_bind (zip_taken hz ho fun g1 hz₁ sb1 => ?_)
  simp only [Bool.false_eq_true, if_false]
  refine wpAny_bind (wpAny_arrayLoop ?_)
  simp only [List.forIn_cons]
  refine wpAny_bind (wpAny_bind (wpAny_holding ?_))
  show wpAny _ _ (Builtin.SmallTypes.nextOf (.ref i1) >>= _) _ _ _
  have a1 : St1 n1 g1 := D1.frame _ _ _ h1 fun c hc o e => sb1.extBut c o (fun q => z1 (q ▸ hc)) e
  refine wpAny_bind (D1.done _ _ _ a1 fun g2 e sb2 he => ?_)
  exact hE g2 e (fun c o c1 c3 x => sb2 _ _ c3 (sb1.extBut _ _ c1 x)) he
theorem pyNext_zipB {z TI TO i1 i2 : Addr} {fp1 fp2 : List Addr} {n1 n2 k : Nat} {P1 P2 : Nat → Value → Prop} {St1 St2 : Nat → Heap → Prop} {a0 : Nat} {o0 : Obj} {fl : Bool} {Q : Option Value → Shared → Prop}
    (D1 : Draws prog w A.in1 i1 fp1 n1 P1 St1) (D2 : Draws prog w A.in1 i2 fp2 n2 P2 St2) (z1 : z ∉ fp1) (z2 : z ∉ fp2) (i12 : i1 ∉ fp2) (i21 : i2 ∉ fp1) (y1 : i1 ≠ z) (y2 : i2 ≠ z)
    (hz : IsZipB s.heap z TI TO (rawInt a0) fl) (ho : s.heap.get? a0 = some o0) (hTI : IsPair s.heap TI (.ref i1) (.ref i2)) (h1 : St1 k s.heap) (h2 : St2 k s.heap) (k1 : k < n1) (k2 : k < n2)
    (hQ : ∀ x y h' tk, P1 k x → P2 k y → IsZipB h' z TI TO (rawInt a0) true → St1 (k + 1) h' → St2 (k + 1) h' → IsPair h' s.heap.objs.size x y →
      (∀ c o, c ≠ z → c ≠ i1 → c ≠ i2 → s.heap.get? c = some o → h'.get? c = some o) → Q (some (.ref s.heap.objs.size)) { s with heap := h', toks := tk }) :
    wpAny (model prog w) A (pyNext (.ref z)) Q E s := by
  have hT : s.TypeIs (.ref z) "zip" := ⟨_, hz, rfl⟩
  unfold pyNext
  exact wpAny_bind (wpAny_attempt (wpAny_callSpecial?_slot (name := Str.ofString "__next__") hT PySem.F.slot_zip_next
    (wpAny_call_entry PySem.F.slot_zip_next hT PySem.F.entry_zip_next
      (zip2_plain D1 D2 z1 z2 i12 i21 y1 y2 hz ho hTI h1 h2 k1 k2 fun x y h' tk p1 p2 c1 c2 c3 c4 c5 => wpAny_pure (hQ x y h' tk p1 p2 c1 c2 c3 c4 c5)) (PySem.F.args_zip_next_1 _))))
theorem pyNext_zipB_end {z TI TO i1 i2 : Addr} {fp1 : List Addr} {n1 : Nat} {P1 : Nat → Value → Prop} {St1 : Nat → Heap → Prop} {a0 : Nat} {o0 : Obj} {fl : Bool} {Q : Option Value → Shared → Prop}
    (D1 : Draws prog w A.in1 i1 fp1 n1 P1 St1) (z1 : z ∉ fp1) (hz : IsZipB s.heap z TI TO (rawInt a0) fl) (ho : s.heap.get? a0 = some o0) (hTI : IsPair s.heap TI (.ref i1) (.ref i2)) (h1 : St1 n1 s.heap)
    (hQ : ∀ h', (∀ c o, c ≠ z → c ≠ i1 → s.heap.get? c = some o → h'.get? c = some o) → Q none { s with heap := h' }) : wpAny (model prog w) A (pyNext (.ref z)) Q E s := by
  have hT : s.TypeIs (.ref z) "zip" := ⟨_, hz, rfl⟩
  unfold pyNext
  refine wpAny_bind (wpAny_attempt (wpAny_callSpecial?_slot (name := Str.ofString "__next__") hT PySem.F.slot_zip_next
    (wpAny_call_entry PySem.F.slot_zip_next hT PySem.F.entry_zip_next (zip_endB D1 z1 hz ho hTI h1 fun h' e hk he => ?_) (PySem.F.args_zip_next_1 _))))
  obtain ⟨o, ho, hc⟩ := he
  refine wpAny_bind (wpAny_isInstance (T := "StopIteration") (b := true) ⟨o, ho, hc⟩ isSubtype_stop ?_)
  exact wpAny_pure (hQ _ hk)
/-- a zip over two lists, k tuples drawn -/
structure ZSt (h : Heap) (z TI TO i1 i2 a b : Addr) (us vs : Array Value) (k : Nat) : Prop where
  zp : (k = 0 ∧ IsZip h z TI TO .none) ∨ ∃ (a0 : Addr) (fl : Bool) (x y : Value), IsZipB h z TI TO (rawInt a0) fl ∧ IsPair h a0 x y ∧ a0 ≠ i1 ∧ a0 ≠ i2
  ti : IsPair h TI (.ref i1) (.ref i2)
  to_ : ∃ x y, IsPair h TO x y
  l1 : h.IsListIter i1 a k
  l2 : h.IsListIter i2 b k
  la : h.IsList a us
  lb : h.IsList b vs
theorem ext_zip {R : Result → Shared → Prop} (hh : A.handled = none) {z TI TO i1 i2 a b S lo : Addr} {us vs : Array Value} (res : Value) (hn : us.size ≤ sizeLine) (hsz : us.size = vs.size) (nd : [z, TI, TO, i1, i2, S].Nodup) (hlo : ∀ c ∈ [z, TI, TO, i1, i2, S], lo ≤ c) (ha : a < lo) (hb : b < lo) :
    ∀ (m k : Nat) (s : Shared) (ts : List Addr) (c : Nat), us.size - k = m → k ≤ us.size → (0 < us.size) → ZSt s.heap z TI TO i1 i2 a b us vs k → s.heap.get? S = some { cls := .type "list", dict := none, data := .seq (ts.map Value.ref).toArray c, slots := #[] } → ts.length = k → ts.Nodup →
    (∀ (j : Nat) t, ts[j]? = some t → ∃ x y, us[j]? = some x ∧ vs[j]? = some y ∧ IsPair s.heap t x y ∧ lo ≤ t ∧ t ∉ [z, TI, TO, i1, i2, S]) →
    (∀ (h' : Heap) (tk : Nat) (ts' : List Addr) (c' : Nat), (∀ b o, b < lo → s.heap.get? b = some o → h'.get? b = some o) → h'.get? S = some { cls := .type "list", dict := none, data := .seq (ts'.map Value.ref).toArray c', slots := #[] } → ts'.length = us.size → ts'.Nodup →
      (∀ (j : Nat) t, ts'[j]? = some t → ∃ x y, us[j]? = some x ∧ vs[j]? = some y ∧ IsPair h' t x y ∧ lo ≤ t ∧ t ∉ [z, TI, TO, i1, i2, S]) → R (.ok (.ret res)) { s with heap := h', toks := tk }) →
    codeAny (model prog w) A (.builtin "list.extend.loop" ⟨[.ref S, .ref z, res], []⟩) R s := by
  simp only [List.nodup_cons, List.mem_cons, List.not_mem_nil, or_false, not_or] at nd
  obtain ⟨⟨n1, n2, n3, n4, n5⟩, ⟨n6, n7, n8, n9⟩, ⟨n10, n11, n12⟩, ⟨n13, n14⟩, n15, _⟩ := nd
  have bel : ∀ {c d : Addr}, c < lo → d ∈ [z, TI, TO, i1, i2, S] → c ≠ d := fun {c d} h1 h2 e => absurd (hlo d h2) (by rw [← e]; exact Nat.not_le.mpr h1)
  have D1 : Draws prog w A.in1.in1 i1 [i1, a] us.size _ _ := Draws.list (prog := prog) (w := w) (A := A.in1.in1) hh i1 a (bel ha (by simp)) us
  have D2 : Draws prog w A.in1.in1 i2 [i2, b] vs.size _ _ := Draws.list (prog := prog) (w := w) (A := A.in1.in1) hh i2 b (bel hb (by simp)) vs
  have f1 : ∀ {d : Addr}, d ∈ [z, TI, TO, i1, i2, S] → d ≠ i1 → d ∉ [i1, a] := fun {d} h1 h2 hm => by
    rcases List.mem_cons.mp hm with q | q
    · exact h2 q
    · exact bel ha h1 (List.mem_singleton.mp q).symm
  have f2 : ∀ {d : Addr}, d ∈ [z, TI, TO, i1, i2, S] → d ≠ i2 → d ∉ [i2, b] := fun {d} h1 h2 hm => by
    rcases List.mem_cons.mp hm with q | q
    · exact h2 q
    · exact bel hb h1 (List.mem_singleton.mp q).symm
  intro m
  induction m with
  | zero =>
    intro k s ts c hk hkn hpos st hS hl hnd hts hR
    have ek : k = us.size := by omega
    subst ek
    refine codeAny_builtin PySem.F.entry_extend_loop ?_
    rw [Around.under_plainId PySem.F.plain_extend_loop _]
    show wpAny _ A.in1 (pyNext (.ref z) >>= _) _ _ s
    rcases st.zp with ⟨q, _⟩ | ⟨a0, fl, x, y, hz, hp, e1, e2⟩
    · omega
    · refine wpAny_bind (pyNext_zipB_end D1 (f1 (by simp) n3) hz hp st.ti ⟨st.l1, st.la⟩ fun h' kp => ?_)
      refine wpAny_pure (hR h' s.toks ts c (fun b o hb e => kp b o (bel hb (by simp)) (bel hb (by simp)) e) (kp _ _ (Ne.symm n5) (Ne.symm n14) hS) hl hnd fun j t ht => ?_)
      obtain ⟨x, y, q1, q2, q3, q4, q5⟩ := hts j t ht
      have q6 := q5
      simp only [List.mem_cons, List.not_mem_nil, or_false, not_or] at q6
      exact ⟨x, y, q1, q2, kp _ _ q6.1 q6.2.2.2.1 q3, q4, q5⟩
  | succ m ih =>
    intro k s ts c hk hkn hpos st hS hl hnd hts hR
    have lt1 : k < us.size := by omega
    have lt2 : k < vs.size := by omega
    refine codeAny_builtin PySem.F.entry_extend_loop ?_
    rw [Around.under_plainId PySem.F.plain_extend_loop _]
    show wpAny _ A.in1 (pyNext (.ref z) >>= _) _ _ s
    have hSlt := Heap.lt_size hS
    -- what a drawn tuple leaves
    have go : ∀ (x y : Value) (h' : Heap) (tk : Nat), us[k]? = some x → vs[k]? = some y → (∃ (a0 : Addr) (fl : Bool) (x y : Value), IsZipB h' z TI TO (rawInt a0) fl ∧ IsPair h' a0 x y ∧ a0 ≠ i1 ∧ a0 ≠ i2) → (h'.IsListIter i1 a (k + 1) ∧ h'.IsList a us) → (h'.IsListIter i2 b (k + 1) ∧ h'.IsList b vs) → IsPair h' s.heap.objs.size x y → (∃ x y, IsPair h' TO x y) →
        (∀ c o, c ≠ z → c ≠ TO → c ≠ i1 → c ≠ i2 → s.heap.get? c = some o → h'.get? c = some o) →
        wpAny (model prog w) A.in1 (updateSeq S (·.push (.ref s.heap.objs.size)) >>= fun _ => again (.builtin "list.extend.loop" ⟨[.ref S, .ref z, res], []⟩)) (fun fin s' => match fin with | .done f => R (.ok f) s' | .again c' => c'.quiet = true ∧ codeAny (model prog w) A c' R s') (fun e s' => R (.error e) s') { s with heap := h', toks := tk } := by
      intro x y h' tk gx gy gz g1 g2 gt gO kp
      have hS' : h'.get? S = some { cls := .type "list", dict := none, data := .seq (ts.map Value.ref).toArray c, slots := #[] } := kp _ _ (Ne.symm n5) (Ne.symm n12) (Ne.symm n14) (Ne.symm n15) hS
      have tne : ∀ {d : Addr} {o : Obj}, s.heap.get? d = some o → s.heap.objs.size ≠ d := fun e => Nat.ne_of_gt (Heap.lt_size e)
      obtain ⟨zo, hzo⟩ : ∃ o, s.heap.get? z = some o := by
        rcases st.zp with ⟨_, q⟩ | ⟨_, _, _, _, q, _⟩
        · exact ⟨_, q⟩
        · exact ⟨_, q⟩
      obtain ⟨Ox, Oy, hTO⟩ := st.to_
      obtain ⟨w1, hw1, _⟩ := st.l1
      obtain ⟨w2, hw2, _⟩ := st.l2
      have loS : lo ≤ s.heap.objs.size := Nat.le_trans (hlo S (by simp)) (Nat.le_of_lt hSlt)
      have newOut : s.heap.objs.size ∉ [z, TI, TO, i1, i2, S] := by
        simp only [List.mem_cons, List.not_mem_nil, or_false, not_or]
        exact ⟨tne hzo, tne st.ti, tne hTO, tne hw1, tne hw2, tne hS⟩
      refine wpAny_bind ?_
      have us1 : ∀ b o, b ≠ S → h'.get? b = some o → (h'.update S (Obj.mapSeq (·.push (.ref s.heap.objs.size)))).get? b = some o := fun b o hb e => (Heap.get?_update_other _ _ (Ne.symm hb)).trans e
      have hl2 : (ts.map Value.ref).toArray.push (.ref s.heap.objs.size) = ((ts ++ [s.heap.objs.size]).map Value.ref).toArray := by simp
      obtain ⟨c2, hc2⟩ : ∃ c2, (h'.update S (Obj.mapSeq (·.push (.ref s.heap.objs.size)))).get? S = some { cls := .type "list", dict := none, data := .seq ((ts ++ [s.heap.objs.size]).map Value.ref).toArray c2, slots := #[] } := ⟨_, by rw [← hl2]; exact Heap.get?_update_self _ hS' rfl⟩
      refine wpAny_updateSeq hS' rfl (wpAny_pure ⟨plainId_quiet PySem.F.plain_extend_loop _, ih (k + 1) _ (ts ++ [s.heap.objs.size]) c2 (by omega) (by omega) hpos ?_ hc2 (by simp [hl]) ?_ ?_ ?_⟩) (by simp; omega) (by simp; omega)
      · refine ⟨.inr ?_, us1 _ _ n9 (kp _ _ (Ne.symm n1) n6 n7 n8 st.ti), ?_, ?_, ?_, ?_, ?_⟩
        · obtain ⟨a0, fl, x0, y0, q1, q2, q3, q4⟩ := gz
          refine ⟨a0, fl, x0, y0, us1 _ _ n5 q1, us1 _ _ (fun e => ?_) q2, q3, q4⟩
          have q2' := q2
          unfold IsPair at q2'
          rw [e, hS'] at q2'
          exact absurd (congrArg Obj.cls (Option.some.inj q2')) (by simp)
        · obtain ⟨x0, y0, q⟩ := gO
          exact ⟨x0, y0, us1 _ _ n12 q⟩
        · exact g1.1.at fun o e => us1 _ _ n14 e
        · exact g2.1.at fun o e => us1 _ _ n15 e
        · exact g1.2.at fun o e => us1 _ _ (bel ha (by simp)) e
        · exact g2.2.at fun o e => us1 _ _ (bel hb (by simp)) e
      · rw [List.nodup_append]
        refine ⟨hnd, by simp, fun t ht t' ht' e => ?_⟩
        obtain ⟨j, hj⟩ := List.getElem?_of_mem ht
        obtain ⟨_, _, _, _, q3, _⟩ := hts j t hj
        rw [e, List.mem_singleton.mp ht'] at q3
        exact tne q3 rfl
      · intro j t ht
        by_cases hj : j < ts.length
        · rw [List.getElem?_append_left hj] at ht
          obtain ⟨x, y, q1, q2, q3, q4, q5⟩ := hts j t ht
          have q6 := q5
          simp only [List.mem_cons, List.not_mem_nil, or_false, not_or] at q6
          exact ⟨x, y, q1, q2, us1 _ _ q6.2.2.2.2.2 (kp _ _ q6.1 q6.2.2.1 q6.2.2.2.1 q6.2.2.2.2.1 q3), q4, q5⟩
        · have ej : j = ts.length := by
            have := (List.getElem?_eq_some_iff.mp ht).1
            simp at this
            omega
          subst ej
          rw [List.getElem?_append_right (Nat.le_refl _)] at ht
          simp at ht
          subst ht
          rw [hl]
          exact ⟨x, y, gx, gy, us1 _ _ (tne hS) gt, loS, newOut⟩
      · intro h2 tk2 ts2 c2 kp2 hS2 hl2 hnd2 hts2
        exact hR h2 tk2 ts2 c2 (fun b o hb e => kp2 b o hb (us1 _ _ (bel hb (by simp)) (kp _ _ (bel hb (by simp)) (bel hb (by simp)) (bel hb (by simp)) (bel hb (by simp)) e))) hS2 hl2 hnd2 hts2
    rcases st.zp with ⟨q, hz⟩ | ⟨a0, fl, x0, y0, hz, hp, e1, e2⟩
    · obtain ⟨Ox, Oy, hTO⟩ := st.to_
      have ap : Ap2 z TI TO i1 i2 [i1, a] [i2, b] := ⟨f1 (by simp) n3, f2 (by simp) n4, f1 (by simp) n10, f2 (by simp) n11, f2 (by simp) n13, f1 (by simp) (Ne.symm n13), Ne.symm n1, n6, n7, n8, Ne.symm n2, n10, n11, Ne.symm n3, Ne.symm n4⟩
      refine wpAny_bind (pyNext_zip2_item D1 D2 ap hz st.ti hTO ⟨st.l1, st.la⟩ ⟨st.l2, st.lb⟩ lt1 lt2 fun x y h' tk p1 p2 q1 q2 q3 q4 q5 q6 => ?_)
      have tne : ∀ {d : Addr} {o : Obj}, s.heap.get? d = some o → s.heap.objs.size ≠ d := fun e => Nat.ne_of_gt (Heap.lt_size e)
      obtain ⟨w1, hw1, _⟩ := st.l1
      obtain ⟨w2, hw2, _⟩ := st.l2
      exact go x y h' tk p1 p2 ⟨_, false, x, y, q1, q5, tne hw1, tne hw2⟩ q3 q4 q5 ⟨x, y, q2⟩ q6
    · refine wpAny_bind (pyNext_zipB D1 D2 (f1 (by simp) n3) (f2 (by simp) n4) (f2 (by simp) n13) (f1 (by simp) (Ne.symm n13)) (Ne.symm n3) (Ne.symm n4) hz hp st.ti ⟨st.l1, st.la⟩ ⟨st.l2, st.lb⟩ lt1 lt2 fun x y h' tk p1 p2 q1 q3 q4 q5 q6 => ?_)
      obtain ⟨Ox, Oy, hTO⟩ := st.to_
      have hne : a0 ≠ z := fun e => by
        have q := hp
        unfold IsPair at q
        unfold IsZipB at hz
        rw [e, hz] at q
        exact absurd (congrArg Obj.cls (Option.some.inj q)) (by simp)
      exact go x y h' tk p1 p2 ⟨a0, true, x0, y0, q1, q6 _ _ hne e1 e2 hp, e1, e2⟩ q3 q4 q5 ⟨Ox, Oy, q6 _ _ (Ne.symm n2) n10 n11 hTO⟩ fun c o c1 _ c3 c4 e => q6 c o c1 c3 c4 e
end
section
variable {prog : Program} {w : World} {A : Around} {E : Value → Shared → Prop} {s : Shared}
theorem nolen_zip : typeLookup (.type "zip") "__len__" = pure none := by rw [typeLookup_type, builtinLookup_eq_fast]; kernel_rfl
theorem nohint_zip : typeLookup (.type "zip") "__length_hint__" = pure none := by rw [typeLookup_type, builtinLookup_eq_fast]; kernel_rfl
theorem call_list_zip {Q : Value → Shared → Prop} (hh : A.handled = none) {z TI TO i1 i2 a b lo : Addr} {us vs : Array Value} (hn : us.size ≤ sizeLine) (hsz : us.size = vs.size) (hpos : 0 < us.size) (nd : [z, TI, TO, i1, i2].Nodup) (hlo : ∀ c ∈ [z, TI, TO, i1, i2], lo ≤ c) (ha : a < lo) (hb : b < lo)
    (hz0 : IsZip s.heap z TI TO .none) (st : ZSt s.heap z TI TO i1 i2 a b us vs 0)
    (hQ : ∀ (h' : Heap) (tk : Nat) (ts : List Addr) (c : Nat), (∀ b o, b < lo → s.heap.get? b = some o → h'.get? b = some o) → h'.get? s.heap.objs.size = some { cls := .type "list", dict := none, data := .seq (ts.map Value.ref).toArray c, slots := #[] } → ts.length = us.size → ts.Nodup →
      (∀ (j : Nat) t, ts[j]? = some t → ∃ x y, us[j]? = some x ∧ vs[j]? = some y ∧ IsPair h' t x y ∧ lo ≤ t ∧ t ≠ s.heap.objs.size) → Q (.ref s.heap.objs.size) { s with heap := h', toks := tk }) :
    wpAny (model prog w) A (call (.type "list") [.ref z]) Q E s := by
  refine callType_codes (Q₁ := fun obj s₁ => obj = .ref s.heap.objs.size ∧ s₁ = { s with heap := s.heap.push { cls := .type "list", data := .seq #[] } }) PySem.F.called_list (PySem.F.typeCall_list_1 _) PySem.F.entry_list_init
    (code_list_new _ ⟨rfl, rfl⟩) fun obj s₁ h₁ => ?_
  obtain ⟨rfl, rfl⟩ := h₁
  have hS : (s.heap.push { cls := .type "list", data := .seq #[] }).get? s.heap.objs.size = some { cls := .type "list", data := .seq #[] } := Heap.get?_push_size _ rfl
  refine ⟨⟨_, hS, rfl⟩, PySem.F.args_list_init_2 _ _, ?_⟩
  have low : ∀ {b : Addr} {o : Obj}, s.heap.get? b = some o → b ≠ s.heap.objs.size := fun e => Nat.ne_of_lt (Heap.lt_size e)
  generalize hSS : s.heap.objs.size = S at hS low hQ ⊢
  have loS : lo ≤ S := by rw [← hSS]; exact Nat.le_trans (hlo z (by simp)) (Nat.le_of_lt (Heap.lt_size hz0))
  show wpAny _ _ (do let old ← Builtin.List.listItems (.ref S); Builtin.List.listUpdate (.ref S) (fun _ => #[]); letGo old.toList.reverse; Builtin.List.listExtendWith (.ref S) (.ref z) .none) _ _ _
  refine wpAny_bind ?_
  unfold Builtin.List.listItems
  refine wpAny_bind (wpAny_seqItems hS rfl (wpAny_pure ?_))
  show wpAny _ _ (updateSeq S (fun _ => #[]) >>= fun _ => letGo (#[] : Array Value).toList.reverse >>= fun _ => Builtin.List.listExtendWith (.ref S) (.ref z) .none) _ _ _
  refine wpAny_bind (wpAny_updateSeq hS rfl ?_)
  obtain ⟨c2, hS₂⟩ : ∃ c2, ((s.heap.push { cls := .type "list", data := .seq #[] }).update S (Obj.mapSeq (fun _ => (#[] : Array Value)))).get? S = some { cls := .type "list", dict := none, data := .seq (([] : List Addr).map Value.ref).toArray c2, slots := #[] } := ⟨_, Heap.get?_update_self _ hS rfl⟩
  have oth : ∀ b o, s.heap.get? b = some o → ((s.heap.push { cls := .type "list", data := .seq #[] }).update S (Obj.mapSeq (fun _ => (#[] : Array Value)))).get? b = some o :=
    fun b o e => (Heap.get?_update_other _ _ (Ne.symm (low e))).trans (Heap.get?_push_of_some _ e)
  refine wpAny_bind (wpAny_letGo ?_)
  generalize (s.heap.push { cls := .type "list", data := .seq #[] }).update S (Obj.mapSeq (fun _ => (#[] : Array Value))) = g at hS₂ oth ⊢
  have hT : ({ s with heap := g } : Shared).TypeIs (.ref z) "zip" := ⟨_, oth _ _ hz0, rfl⟩
  have hSz : S ≠ z := Ne.symm (low hz0)
  have h1 : Builtin.List.listSameRef (.ref S) (.ref z) = false := by simp [Builtin.List.listSameRef, hSz]
  unfold Builtin.List.listExtendWith
  refine wpAny_bind (wpAny_typeOf hT ?_)
  rw [if_neg (by rw [h1]; decide)]
  refine wpAny_bind (wpAny_pyIter_zip (oth _ _ hz0) ?_)
  refine wpAny_bind (wpAny_holding ?_)
  unfold Builtin.List.listLengthHint
  refine wpAny_bind (wpAny_specialOf hT nolen_zip ?_)
  show wpAny _ _ (specialOf (Value.ref z) (Str.ofString "__length_hint__") >>= _) _ _ _
  refine wpAny_bind (wpAny_specialOf hT nohint_zip ?_)
  refine wpAny_pure ?_
  rw [if_pos (by decide)]
  refine wpAny_bind (wpAny_rule (wpAny_bind ?_))
  show wpAny _ _ (updateSeq S (·.push .none) >>= fun _ => updateSeq S (·.pop)) _ _ _
  refine wpAny_bind (wpAny_updateSeq hS₂ rfl ?_ (by simp) (by simp))
  obtain ⟨c3, hS₃⟩ : ∃ c3, (g.update S (Obj.mapSeq (·.push .none))).get? S = some { cls := .type "list", dict := none, data := .seq #[.none] c3, slots := #[] } := ⟨_, Heap.get?_update_self _ hS₂ rfl⟩
  refine wpAny_updateSeq hS₃ rfl ?_ (by show 1 ≤ sizeLine; decide) (by simp)
  obtain ⟨c4, hS₄⟩ : ∃ c4, ((g.update S (Obj.mapSeq (·.push .none))).update S (Obj.mapSeq (·.pop))).get? S = some { cls := .type "list", dict := none, data := .seq (([] : List Addr).map Value.ref).toArray c4, slots := #[] } := ⟨_, Heap.get?_update_self _ hS₃ rfl⟩
  have oth2 : ∀ b o, s.heap.get? b = some o → ((g.update S (Obj.mapSeq (·.push .none))).update S (Obj.mapSeq (·.pop))).get? b = some o := fun b o e => (Heap.get?_update_other _ _ (Ne.symm (low e))).trans ((Heap.get?_update_other _ _ (Ne.symm (low e))).trans (oth b o e))
  clear oth hT hS₂ hS₃
  generalize (g.update S (Obj.mapSeq (·.push .none))).update S (Obj.mapSeq (·.pop)) = g2 at hS₄ oth2 ⊢
  refine wpAny_pure ⟨plainId_quiet PySem.F.plain_extend_loop _, ext_zip (A := A.in1) hh (TI := TI) (TO := TO) (i1 := i1) (i2 := i2) (lo := lo) .none hn hsz ?_ ?_ ha hb us.size 0 _ [] c4 rfl (Nat.zero_le _) hpos ?_ hS₄ rfl (by simp) ?_ ?_⟩
  · have : S ∉ [z, TI, TO, i1, i2] := fun hm => by
      obtain ⟨Ox, Oy, hTO⟩ := st.to_
      obtain ⟨w1, hw1, _⟩ := st.l1
      obtain ⟨w2, hw2, _⟩ := st.l2
      simp only [List.mem_cons, List.not_mem_nil, or_false] at hm
      rcases hm with q | q | q | q | q
      · exact low hz0 q.symm
      · exact low st.ti q.symm
      · exact low hTO q.symm
      · exact low hw1 q.symm
      · exact low hw2 q.symm
    have e : [z, TI, TO, i1, i2, S] = [z, TI, TO, i1, i2] ++ [S] := rfl
    rw [e, List.nodup_append]
    exact ⟨nd, by simp, fun x hx y hy q => this (by rw [← List.mem_singleton.mp hy, ← q]; exact hx)⟩
  · intro c hc
    simp only [List.mem_cons, List.not_mem_nil, or_false] at hc
    rcases hc with q | q | q | q | q | q
    · exact hlo c (by simp [q])
    · exact hlo c (by simp [q])
    · exact hlo c (by simp [q])
    · exact hlo c (by simp [q])
    · exact hlo c (by simp [q])
    · rw [q]; exact loS
  · obtain ⟨Ox, Oy, hTO⟩ := st.to_
    exact ⟨.inl ⟨rfl, oth2 _ _ hz0⟩, oth2 _ _ st.ti, ⟨Ox, Oy, oth2 _ _ hTO⟩, st.l1.at fun o e => oth2 _ _ e, st.l2.at fun o e => oth2 _ _ e, st.la.at fun o e => oth2 _ _ e, st.lb.at fun o e => oth2 _ _ e⟩
  · intro j t ht
    simp at ht
  · intro h' tk ts c kp hS' hl hnd hts
    refine ⟨rfl, hQ h' tk ts c (fun b o hb e => kp b o hb (oth2 b o e)) hS' hl hnd fun j t ht => ?_⟩
    obtain ⟨x, y, q1, q2, q3, q4, q5⟩ := hts j t ht
    exact ⟨x, y, q1, q2, q3, q4, fun e => q5 (by simp [e])⟩
end
/-- tuples laid at ts -/
def lay2 (H : Hp) : List Addr → List (V × V) → Hp
  | t :: ts, p :: ps => upd (lay2 H ts ps) t (.tup [p.1, p.2])
  | _, _ => H
theorem lay2_out {H : Hp} : ∀ {ts : List Addr} {ps : List (V × V)} {b : Addr}, b ∉ ts → lay2 H ts ps b = H b
  | [], _, _, _ => by unfold lay2; rfl
  | t :: ts, [], _, _ => by unfold lay2; rfl
  | t :: ts, p :: ps, b, h => by
    show upd (lay2 H ts ps) t _ b = H b
    rw [upd_ne (fun e => h (by simp [e])), lay2_out (fun e => h (by simp [e]))]
theorem lay2_cases {H : Hp} : ∀ {ts : List Addr} {ps : List (V × V)} {b : Addr} {u : HO}, ts.length = ps.length → lay2 H ts ps b = some u → (∃ (j : Nat) (p : V × V), ts[j]? = some b ∧ ps[j]? = some p ∧ u = .tup [p.1, p.2]) ∨ (b ∉ ts ∧ H b = some u)
  | [], _, b, u, _, e => by
    unfold lay2 at e
    exact .inr ⟨by simp, e⟩
  | t :: ts, [], b, u, hl, e => by simp at hl
  | t :: ts, p :: ps, b, u, hl, e => by
    have e : upd (lay2 H ts ps) t (.tup [p.1, p.2]) b = some u := e
    by_cases hb : b = t
    · subst hb
      rw [upd_same] at e
      exact .inl ⟨0, p, rfl, rfl, (Option.some.inj e).symm⟩
    · rw [upd_ne hb] at e
      rcases lay2_cases (by simpa using hl) e with ⟨j, p', h1, h2, h3⟩ | ⟨h1, h2⟩
      · exact .inl ⟨j + 1, p', h1, h2, h3⟩
      · exact .inr ⟨by simp [hb, h1], h2⟩
theorem lay2_at {H : Hp} : ∀ {ts : List Addr} {ps : List (V × V)} {j : Nat} {t : Addr} {p : V × V}, ts.Nodup → ts[j]? = some t → ps[j]? = some p → lay2 H ts ps t = some (.tup [p.1, p.2])
  | [], _, j, t, p, _, h1, _ => by simp at h1
  | t0 :: ts, [], j, t, p, _, _, h2 => by simp at h2
  | t0 :: ts, p0 :: ps, 0, t, p, _, h1, h2 => by
    cases h1
    cases h2
    exact upd_same
  | t0 :: ts, p0 :: ps, j + 1, t, p, nd, h1, h2 => by
    have h1 : ts[j]? = some t := h1
    have h2 : ps[j]? = some p := h2
    have nd := List.nodup_cons.mp nd
    show upd (lay2 H ts ps) t0 _ t = _
    rw [upd_ne (fun e => nd.1 (by rw [← e]; exact List.mem_of_getElem? h1))]
    exact lay2_at nd.2 h1 h2
section
variable {X : Cx}
def tListZip (K : PySem.W.Frag) (ta : TA) : TE := fun σ H Q => ta σ H fun vs H1 => ∃ (a b : Addr) (xs ys : List V), vs = [.ref a, .ref b] ∧ SqL K H1 a xs ∧ SqL K H1 b ys ∧ xs.length = ys.length ∧ 0 < xs.length ∧
  ∀ (ts : List Addr) (l : Addr) (H2 : Hp), Same H1 H2 → ts.length = xs.length → (∀ (j : Nat) t x y, ts[j]? = some t → xs[j]? = some x → ys[j]? = some y → H2 t = some (.tup [x, y])) → H2 l = none → H1 l = none → Q (.ref l) (upd H2 l (.lst (ts.map V.ref)))
theorem pe_list_zip {a b : Expr} {ta : TA} {p p2 pos pos2 : Pos} (hc : X.calm = true) (hg : Gl X "list") (hm : X.mg "list" = none) (hg2 : Gl X "zip") (hm2 : X.mg "zip" = none) (ha : PA X [a, b] ta)
    (h1 : starEach [.Call (.Name "zip" p2) [a, b] [] pos2] X.env = [(false, eval (.Call (.Name "zip" p2) [a, b] [] pos2) X.env)] := by rfl) (hs : starEach [a, b] X.env = [(false, eval a X.env), (false, eval b X.env)] := by rfl) (hs2 : starEach [b] X.env = [(false, eval b X.env)] := by rfl) :
    PE X (.Call (.Name "list" p) [.Call (.Name "zip" p2) [a, b] [] pos2] [] pos) (tListZip X.K ta) := by
  intro pins s σ H Q I h
  refine wpAny_Call_Name_kw (ld_blt I hg hm PyProof.Rows.boot_list ?_ (by decide) (by decide))
  refine PyProof.Rows.callWith_type1 ?_ h1 (by rfl)
  rw [h1]
  show wpAny _ _ (spliced ((false, eval (.Call (.Name "zip" p2) [a, b] [] pos2) X.env) :: backTo pos [])) _ _ s
  refine Calls.spliced_cons ?_
  refine Call_ (ld_blt I hg2 hm2 PyProof.Rows.boot_zip (PyProof.Rows.callWith_type1 (thn (ha pos2 pins s σ H _ I h) fun us s1 ⟨vs, H1, I1, r1, q1⟩ => ?_) (by rw [hs, hs2]) (by rw [hs2]; rfl)))
  obtain ⟨a1, b1, xs, ys, rfl, ga, gb, hl, hpos, q⟩ := q1
  obtain ⟨u1, u2, rfl, ru1, ru2⟩ := vals2 r1
  cases ru1
  cases ru2
  obtain ⟨its1, rv1, pl1, z1⟩ := I1.list ga
  obtain ⟨its2, rv2, pl2, z2⟩ := I1.list gb
  have e1 := rv1.length
  have e2 := rv2.length
  have la := pl1.isList
  have lb := pl2.isList
  refine call_zip2 (itMk_list la) (itMk_list lb) rfl rfl fun h' c1 c2 c3 c4 c5 kp => Calls.spliced_nil ?_
  have alt : a1 < s1.heap.objs.size := by obtain ⟨_, e, _⟩ := la; exact Heap.lt_size e
  have blt : b1 < s1.heap.objs.size := by obtain ⟨_, e, _⟩ := lb; exact Heap.lt_size e
  generalize hn : s1.heap.objs.size = n at c1 c2 c3 c4 c5 alt blt
  refine call_list_zip (s := { s1 with heap := h' }) (I1.ok.hd hc) (z := n + 4) (TI := n + 2) (TO := n + 3) (i1 := n) (i2 := n + 1) (a := a1) (b := b1) (lo := n) (us := its1.toArray) (vs := its2.toArray) (by simp; omega) (by simp; omega) (by simp; omega) (by simp) ?_ alt blt c1
    ⟨.inl ⟨rfl, c1⟩, c2, ⟨_, _, c3⟩, ⟨_, c4, rfl, rfl⟩, ⟨_, c5, rfl, rfl⟩, la.at fun o e => kp _ _ e, lb.at fun o e => kp _ _ e⟩ ?_
  · intro c hc
    simp only [List.mem_cons, List.not_mem_nil, or_false] at hc
    rcases hc with rfl | rfl | rfl | rfl | rfl <;> first | exact Nat.le_add_right _ _ | exact Nat.le_refl _
  · intro h2 tk ts c kp2 hL hlen hnd hts
    rw [List.size_toArray] at hlen
    have kpn : ∀ b o, s1.heap.get? b = some o → h2.get? b = some o := fun b o e => kp2 b o (by rw [← hn]; exact Heap.lt_size e) (kp b o e)
    have hSn : n ≤ h'.objs.size := Nat.le_trans (Nat.le_add_right n 4) (Nat.le_of_lt (Heap.lt_size c1))
    have fresh : ∀ b, n ≤ b → H1 b = none := fun b hb => I1.hok.fresh (by rw [hn]; exact hb)
    have tin : ∀ t, t ∈ ts → n ≤ t ∧ t ≠ h'.objs.size := fun t ht => by
      obtain ⟨j, hj⟩ := List.getElem?_of_mem ht
      obtain ⟨_, _, _, _, _, q4, q5⟩ := hts j t hj
      exact ⟨q4, q5⟩
    have plen : (xs.zip ys).length = ts.length := by rw [List.length_zip, hlen]; omega
    have pat : ∀ (j : Nat) (x y : V), xs[j]? = some x → ys[j]? = some y → (xs.zip ys)[j]? = some (x, y) := fun j x y h1 h2 => by
      rw [List.getElem?_zip_eq_some]; exact ⟨h1, h2⟩
    generalize hSS : h'.objs.size = S at hL tin hSn
    have out : ∀ b u, H1 b = some u → b ∉ ts ∧ b ≠ S := fun b u e => ⟨(fun q => by rw [fresh b (tin b q).1] at e; cases e), (fun q => by rw [q, fresh S hSn] at e; cases e)⟩
    have keepH : ∀ b u, H1 b = some u → upd (lay2 H1 ts (xs.zip ys)) S (.lst (ts.map V.ref)) b = some u := fun b u e => by
      rw [upd_ne (out b u e).2, lay2_out (out b u e).1]
      exact e
    have u0 : Un X.fs [] H1 H1 s1.heap h2 := Un.kept kpn
    have lS : lay2 H1 ts (xs.zip ys) S = none := by
      rw [lay2_out fun q => (tin S q).2 rfl]
      exact fresh S hSn
    refine ⟨.ref S, _, I1.un (H' := upd (lay2 H1 ts (xs.zip ys)) S (.lst (ts.map V.ref))) (t' := tk) ⟨u0.keep, u0.slot, fun b o e n1 hx => ?_, u0.there, fun b q e => keepH _ _ e, fun b o q e => keepH _ _ e, fun b q e => ⟨#[], ?_⟩⟩ (fun b u e => ?_), rfl, q ts S (lay2 H1 ts (xs.zip ys)) (fun b u e => ?_) (by omega) ?_ lS (fresh S hSn)⟩
    · have hb : b < n := by rw [← hn]; exact Heap.lt_size e
      rw [upd_ne (fun q => absurd hSn (by rw [← q]; exact Nat.not_le.mpr hb)), lay2_out fun q => absurd (tin b q).1 (Nat.not_le.mpr hb)]
      exact n1
    · rw [keepH _ _ e]; simp
    · by_cases hb : b = S
      · subst hb
        rw [upd_same] at e
        cases e
        refine ⟨by rw [List.length_map]; omega, ts.map Value.ref, c, ?_, hL⟩
        clear hL hts hnd hlen plen tin out keepH lS
        induction ts with
        | nil => exact .nil
        | cons t ts ih => exact .cons rfl ih
      · rw [upd_ne hb] at e
        rcases lay2_cases plen.symm e with ⟨j, p, h3, h4, rfl⟩ | ⟨_, h4⟩
        · obtain ⟨x, y, q1, q2, q3, _, _⟩ := hts j b h3
          rw [List.getElem?_zip_eq_some] at h4
          rw [List.getElem?_toArray] at q1 q2
          obtain ⟨w1, g1, r1'⟩ := rv1.get h4.1
          obtain ⟨w2, g2, r2'⟩ := rv2.get h4.2
          rw [q1] at g1
          rw [q2] at g2
          cases g1
          cases g2
          exact ⟨by show 2 ≤ sizeLine; decide, [x, y], .cons r1' (.cons r2' .nil), ⟨_, q3, rfl, _, rfl⟩⟩
        · exact (I1.hok b u h4).stay (fun c v hc q => kpn c v q) (fun c q => keepH _ _ q) fun c _ q => keepH _ _ q
    · rw [lay2_out (out b u e).1]; exact e
    · intro j t x y h3 h4 h5
      exact lay2_at hnd h3 (pat j x y h4 h5)
end
end LX
namespace TS
open PySem L2 LX
def top (i : Nat) : Stmt := PySem.Challenge.pw_turnscript_k09_carets.main.body.getD i (.Pass ⟨0, 0, 0, 0⟩)
abbrev s_longest_rows : Stmt := top 1
abbrev s_turned_about : Stmt := top 2
abbrev s_order : Stmt := top 3
abbrev s_seen_at : Stmt := top 4
abbrev s_begin_edge : Stmt := top 6
abbrev s_end_edge : Stmt := top 7
abbrev s_carets : Stmt := top 8
abbrev s__law_cell_at : Stmt := top 10
abbrev s__law_pick : Stmt := top 11
abbrev s__law_whole : Stmt := top 12
abbrev s__law_mix : Stmt := top 13
abbrev s__law_size : Stmt := top 14
abbrev s__law_row : Stmt := top 15
abbrev s__law_order : Stmt := top 16
abbrev s__law_face : Stmt := top 17
abbrev s__law_same : Stmt := top 18
abbrev s_law : Stmt := top 19
section
variable {P : Program} {w : World} {K : PySem.W.Frag} {mg : Str → Option Value} {base : Heap}
theorem sc_longest_rows : FnScope ["places", "told", "place"] ["places"] (defScope s_longest_rows) := ⟨rfl, rfl, rfl, by decide +kernel, rfl, by decide +kernel, by decide +kernel⟩
theorem ok_longest_rows {f : Addr} {fd : FuncData} (F : Fun K "longest_rows" "longest_rows" s_longest_rows f fd) : FnOk P w K mg base CX0 1 f fd ["places"] (spRows K) := by
  refine F.ok sc_longest_rows (fun vs H Q E h => ?_) (fun cdv A outer s H vs Q E hr h => ?_)
  · obtain ⟨a, ps, rfl, _⟩ := h
    rfl
  · obtain ⟨a, ps, rfl, hS, hlen, k⟩ := h
    refine ⟨_, pss_cons (ps_set (i := 1) sc_longest_rows.nd rfl (Or.inl rfl) (pe_lst pa_nil))
      (pss_cons (ps_for PassesOwn.never rfl (pi_list (pv 0)) (pg_name (i := 2) sc_longest_rows.nd rfl (Or.inl rfl))
        (pss_one (ps_if (pw_and (pt_truth (pv 1) (fun _ => rfl)) (pw_and1 (pt_cmpR op_eq (pe_ix ix_tup (pe_ix ix_list (pv 1) (pe_un un_neg pe_int) (fun _ _ => rfl)) pe_int (fun _ _ => rfl)) (pv 2) (nomark _)))).pt
          (pss_one (ps_asg (pe_tup (pa_cons (pe_ix ix_tup (pe_ix ix_list (pv 1) (pe_un un_neg pe_int) (fun _ _ => rfl)) pe_int (fun _ _ => rfl)) (pa_cons (pe_op op_add (pv 2) pe_int) pa_nil))) (pg_sub (pv 1) (pe_un un_neg pe_int) set_list)))
          (pss_one (ps_expr (pe_bm PySem.F.plainAttrs_list PySem.F.slot_list_append PySem.F.type_list_append mt_append (pv 1) (pa_cons (pe_tup (pa_cons (pv 2) (pa_cons (pe_op op_add (pv 2) pe_int) pa_nil))) pa_nil)))))))
      (pss_one (ps_ret (pv 1)))), ?_⟩
    refine ⟨Nat.zero_le _, fun tA htA => ?_⟩
    refine ⟨_, rfl, a, rfl, ⟨_, (Same.upd0 htA).seq hS⟩, ?_⟩
    refine for_list (K := K) (xs := vN ps) (fun i σ H2 => ∃ (v2 : Option V) (as : List Addr), σ = [some (.ref a), some (.ref tA), v2] ∧ Same H H2 ∧ H2 tA = some (.lst (as.map V.ref)) ∧ TupsAt H2 as (toF (lrows (ps.take i))))
      ⟨_, [], rfl, Same.upd0 htA, upd_same, .nil⟩ ?_ ?_ ?_
    · rintro i σ H2 _ ⟨v2, as, rfl, s2, hT, hA⟩
      exact s2.seq hS
    · rintro i x σ H2 hx ⟨v2, as, rfl, s2, hT, hA⟩
      obtain ⟨m, hm, rfl⟩ := vN_get hx
      have hi : i < ps.length := (List.getElem?_eq_some_iff.mp hm).1
      have hal : as.length ≤ 60 := by
        have e1 := hA.len
        rw [toF_len] at e1
        have e2 := lrows_le (ps.take i)
        rw [List.length_take] at e2
        omega
      have er : lrows (ps.take (i + 1)) = lstep (lrows (ps.take i)) m := by rw [take_snoc hm, lrows_snoc]
      rw [er]
      generalize lrows (ps.take i) = L at hA ⊢
      -- a new tuple is told behind the others
      have new : ∀ H3, Same H H3 → H3 tA = some (.lst (as.map V.ref)) → TupsAt H3 as (toF L) → ∀ tp, H3 tp = none → ∃ (v2 : Option V) (as' : List Addr), [some (V.ref a), some (V.ref tA), some (V.int (m : Int))] = [some (.ref a), some (.ref tA), v2] ∧ Same H (upd (upd H3 tp (.tup [.int (m : Int), .int ((m : Int) + 1)])) tA (.lst (as.map V.ref ++ [.ref tp]))) ∧
          (upd (upd H3 tp (.tup [.int (m : Int), .int ((m : Int) + 1)])) tA (.lst (as.map V.ref ++ [.ref tp]))) tA = some (.lst (as'.map V.ref)) ∧ TupsAt (upd (upd H3 tp (.tup [.int (m : Int), .int ((m : Int) + 1)])) tA (.lst (as.map V.ref ++ [.ref tp]))) as' (toF (L ++ [(m, m + 1)])) := by
        intro H3 s3 hT3 hA3 tp htp
        refine ⟨_, as ++ [tp], rfl, Same.updT (Same.upd s3 htp) htA, by rw [upd_same, List.map_append]; rfl, ?_⟩
        have a4 : TupsAt (upd H3 tp (.tup [.int (m : Int), .int ((m : Int) + 1)])) as (toF L) := hA3.same (Same.upd0 htp)
        have t4 : upd H3 tp (.tup [.int (m : Int), .int ((m : Int) + 1)]) tA = some (.lst (as.map V.ref)) := (upd_ne (ne_of_none hT3 htp)).trans hT3
        rw [toF_snoc]
        refine (a4.off t4).snoc ?_
        rw [upd_ne (fun e => by rw [e, hT3] at htp; cases htp), upd_same]
        rfl
      dsimp only [gName]
      have hsm : (as.map V.ref).length < sizeLine := small1000 (by rw [List.length_map]; omega)
      rcases List.eq_nil_or_concat L with rfl | ⟨L', y, rfl⟩
      · have e0 : as = [] := List.eq_nil_of_length_eq_zero (by rw [hA.len]; rfl)
        subst e0
        refine ⟨_, rfl, false, .inl ⟨_, SqL.of hT, rfl⟩, ?_⟩
        refine iteF (iteF ?_)
        refine ⟨_, rfl, .inl ⟨rfl, _, SqL.of hT⟩, _, rfl, _, rfl, _, _, rfl, rfl, (by show 2 ≤ sizeLine; decide), fun tp htp => ?_⟩
        refine ⟨tA, _, _, rfl, rfl, (upd_ne (ne_of_none hT htp)).trans hT, hsm, ?_⟩
        have : lstep [] m = [] ++ [(m, m + 1)] := rfl
        rw [this]
        exact new H2 s2 hT hA tp htp
      · rw [List.concat_eq_append] at hA new ⊢
        rw [toF_snoc] at hA
        obtain ⟨as', t0, rfl, hA', ht0⟩ := hA.split
        have elast : atI ((as' ++ [t0]).map V.ref) (-1) = some (V.ref t0) := by rw [List.map_append]; exact atI_last _ _
        refine ⟨_, rfl, true, .inl ⟨_, SqL.of hT, by rw [List.map_append]; simp⟩, ?_⟩
        refine iteT ?_
        refine ⟨_, rfl, _, rfl, tA, _, _, _, rfl, rfl, SqL.of hT, elast, t0, _, _, _, rfl, rfl, SqT.of ht0, rfl, _, rfl, rfl, _, rfl, ?_⟩
        by_cases hy : y.2 = m
        · have e1 : decide (faceV (some (y.2 : Int)) = V.int (m : Int)) = true := decide_eq_true (by rw [hy]; rfl)
          rw [e1]
          refine iteT ?_
          refine ⟨_, rfl, _, rfl, tA, _, _, _, rfl, rfl, SqL.of hT, elast, t0, _, _, _, rfl, rfl, SqT.of ht0, rfl, _, rfl, _, _, rfl, rfl, (by show 2 ≤ sizeLine; decide), fun tp htp => ?_⟩
          have tT : upd H2 tp (.tup [faceV (some (y.1 : Int)), .int ((m : Int) + 1)]) tA = some (.lst ((as' ++ [t0]).map V.ref)) := (upd_ne (ne_of_none hT htp)).trans hT
          refine ⟨_, rfl, _, rfl, tA, _, _, as'.length, rfl, rfl, tT, by rw [List.length_map, List.length_append]; exact ix_last _, ?_⟩
          have es : (((as' ++ [t0]).map V.ref).set as'.length (V.ref tp)) = (as' ++ [tp]).map V.ref := by
            rw [List.map_append, List.map_append]
            have := set_last (as'.map V.ref) (V.ref t0) (V.ref tp)
            rw [List.length_map] at this
            exact this
          rw [es]
          refine ⟨_, as' ++ [tp], rfl, Same.updT (Same.upd s2 htp) htA, upd_same, ?_⟩
          have el : lstep (L' ++ [y]) m = L' ++ [(y.1, m + 1)] := by
            obtain ⟨y1, y2⟩ := y
            have : y2 = m := hy
            subst this
            exact lstep_on L' y1 y2
          rw [el, toF_snoc]
          have a4 : TupsAt (upd H2 tp (.tup [faceV (some (y.1 : Int)), .int ((m : Int) + 1)])) as' (toF L') := hA'.same (Same.upd0 htp)
          refine (a4.off tT).snoc ?_
          rw [upd_ne (fun e => by rw [e, hT] at htp; cases htp), upd_same]
          rfl
        · have e1 : decide (faceV (some (y.2 : Int)) = V.int (m : Int)) = false := decide_eq_false (fun e => hy (by
            have : V.int (y.2 : Int) = V.int (m : Int) := e
            injection this with this
            omega))
          rw [e1]
          refine iteF ?_
          refine ⟨_, rfl, .inl ⟨rfl, _, SqL.of hT⟩, _, rfl, _, rfl, _, _, rfl, rfl, (by show 2 ≤ sizeLine; decide), fun tp htp => ?_⟩
          refine ⟨tA, _, _, rfl, rfl, (upd_ne (ne_of_none hT htp)).trans hT, hsm, ?_⟩
          have el : lstep (L' ++ [y]) m = (L' ++ [y]) ++ [(m, m + 1)] := by
            unfold lstep
            rw [List.getLast?_concat]
            simp only
            rw [if_neg hy]
          rw [el]
          exact new H2 s2 hT (by rw [toF_snoc]; exact hA) tp htp
    · rintro σ H2 ⟨v2, as, rfl, s2, hT, hA⟩
      rw [vN_len, List.take_length] at hA
      exact ⟨_, rfl, k tA as H2 s2 htA hT hA⟩
theorem sc_turned_about : FnScope ["row", "first", "behind"] ["row", "first", "behind"] (defScope s_turned_about) := ⟨rfl, rfl, rfl, by decide +kernel, rfl, by decide +kernel, by decide +kernel⟩
theorem ok_turned_about {f : Addr} {fd : FuncData} (F : Fun K "turned_about" "turned_about" s_turned_about f fd) (T : Blt mg) : FnOk P w K mg base CX0 1 f fd ["row", "first", "behind"] (spTurn K) := by
  refine F.ok sc_turned_about (fun vs H Q E h => ?_) (fun cdv A outer s H vs Q E hr h => ?_)
  · obtain ⟨a, R, x, rfl, _⟩ := h
    rfl
  · obtain ⟨a, R, x, rfl, hS, h1, h2, hlen, k⟩ := h
    refine ⟨_, pss_one (ps_ret (pe_op op_cat (pe_op op_cat (pe_slice sl_list (pv 0) po_none (po_some (pv 1))) (pe_list_rev (pe_slice sl_list (pv 0) (po_some (pv 1)) (po_some (pv 2))) (by rfl) T.list (by rfl) T.reversed rfl)) (pe_slice sl_list (pv 0) (po_some (pv 2)) po_none))), ?_⟩
    refine ⟨_, rfl, _, rfl, _, rfl, a, _, rfl, hS, fun p1 n1 => ?_⟩
    rw [cut_to R (Nat.le_trans h1 h2)]
    have s1 := Same.upd0 (o := .lst (vN (R.take x.1))) n1
    have e1 : upd H p1 (.lst (vN (R.take x.1))) p1 = some (.lst (vN (R.take x.1))) := upd_same
    generalize upd H p1 (.lst (vN (R.take x.1))) = H1 at s1 e1 ⊢
    refine ⟨_, rfl, _, rfl, _, rfl, _, rfl, _, rfl, a, _, rfl, s1.seq hS, fun p2 n2 => ?_⟩
    rw [cut_mid R h1 h2]
    have s2 := Same.upd (o := .lst (vN ((R.drop x.1).take (x.2 - x.1)))) s1 n2
    have e2 := Same.upd0 (o := .lst (vN ((R.drop x.1).take (x.2 - x.1)))) n2 _ _ e1
    have f2 : upd H1 p2 (.lst (vN ((R.drop x.1).take (x.2 - x.1)))) p2 = some (.lst (vN ((R.drop x.1).take (x.2 - x.1)))) := upd_same
    generalize upd H1 p2 (.lst (vN ((R.drop x.1).take (x.2 - x.1)))) = H2 at s2 e2 f2 ⊢
    refine ⟨p2, _, rfl, SqL.of f2, fun p3 n3 => ?_⟩
    rw [vN_rev]
    have s3 := Same.upd (o := .lst (vN ((R.drop x.1).take (x.2 - x.1)).reverse)) s2 n3
    have e3 := Same.upd0 (o := .lst (vN ((R.drop x.1).take (x.2 - x.1)).reverse)) n3 _ _ e2
    have f3 : upd H2 p3 (.lst (vN ((R.drop x.1).take (x.2 - x.1)).reverse)) p3 = some (.lst (vN ((R.drop x.1).take (x.2 - x.1)).reverse)) := upd_same
    generalize upd H2 p3 (.lst (vN ((R.drop x.1).take (x.2 - x.1)).reverse)) = H3 at s3 e3 f3 ⊢
    refine ⟨p1, p3, _, _, rfl, rfl, e3, f3, le_line (by simp only [vN_len, List.length_take, List.length_reverse, List.length_drop]; omega), fun p4 n4 => ?_⟩
    rw [vN_app]
    have s4 := Same.upd (o := .lst (vN (R.take x.1 ++ ((R.drop x.1).take (x.2 - x.1)).reverse))) s3 n4
    have f4 : upd H3 p4 (.lst (vN (R.take x.1 ++ ((R.drop x.1).take (x.2 - x.1)).reverse))) p4 = some (.lst (vN (R.take x.1 ++ ((R.drop x.1).take (x.2 - x.1)).reverse))) := upd_same
    generalize upd H3 p4 (.lst (vN (R.take x.1 ++ ((R.drop x.1).take (x.2 - x.1)).reverse))) = H4 at s4 f4 ⊢
    refine ⟨_, rfl, _, rfl, _, rfl, a, _, rfl, s4.seq hS, fun p5 n5 => ?_⟩
    rw [cut_from R h2]
    have s5 := Same.upd (o := .lst (vN (R.drop x.2))) s4 n5
    have f5 := Same.upd0 (o := .lst (vN (R.drop x.2))) n5 _ _ f4
    have g5 : upd H4 p5 (.lst (vN (R.drop x.2))) p5 = some (.lst (vN (R.drop x.2))) := upd_same
    generalize upd H4 p5 (.lst (vN (R.drop x.2))) = H5 at s5 f5 g5 ⊢
    refine ⟨p4, p5, _, _, rfl, rfl, f5, g5, le_line (by simp only [vN_len, List.length_append, List.length_take, List.length_reverse, List.length_drop]; omega), fun p6 n6 => ?_⟩
    rw [vN_app]
    exact k p6 _ (Same.upd s5 n6) (s5.free n6) upd_same
def scx_order : Scope := match s_order with
  | .FunctionDef _ _ (_ :: .For _ _ (.Assign _ (.ListComp _ _ sc _) _ :: _) _ _ :: _) _ _ _ _ _ _ _ => sc
  | _ => { kind := .function, names := [], isGenerator := false, isCoroutine := false }
theorem sc_order : FnScope ["levels", "told", "least", "high", "first", "behind"] ["levels"] (defScope s_order) := ⟨rfl, rfl, rfl, by decide +kernel, rfl, by decide +kernel, by decide +kernel⟩
theorem scc_order : CompSc (defScope s_order) ["levels", "told", "least", "high", "first", "behind"] ["place", "level"] ["least"] [2] scx_order :=
  ⟨by decide +kernel, by decide +kernel, by decide +kernel, by decide +kernel, by decide +kernel, by decide +kernel, by decide +kernel⟩
theorem ndc_order : (["place", "level", "least"] : List Str).Nodup := by decide +kernel
theorem ok_order {f : Addr} {fd : FuncData} (F : Fun K "order" "order" s_order f fd) (T : Blt mg) (T2 : BltB mg) (D1 : Def P w K mg base "longest_rows" 1 ["places"] (spRows K)) (D2 : Def P w K mg base "turned_about" 1 ["row", "first", "behind"] (spTurn K)) :
    FnOk P w K mg base CX0 3 f fd ["levels"] (spOrder K) := by
  refine F.ok sc_order (fun vs H Q E h => ?_) (fun cdv A outer s H vs Q E hr h => ?_)
  · obtain ⟨a, row, rfl, _⟩ := h
    rfl
  · obtain ⟨a, row, rfl, hS, hR, k⟩ := h
    have hlen := hR.len
    have hr1 : Room 1 _ := hr.mono (by decide)
    refine ⟨_, pss_cons (ps_set (i := 1) sc_order.nd rfl (Or.inl rfl) (pe_callTy (call_list_rng rfl) (by rfl) T.list PyProof.Rows.boot_list (pa_cons (pe_callTy call_range1 (by rfl) T.range PyProof.Rows.boot_range (pa_cons (pe_callB call_len_seq (by rfl) T.len PySem.boot_len (pa_cons (pv 0) pa_nil)) pa_nil)) pa_nil)))
      (pss_cons (ps_for PassesOwn.never rfl (pi_rangeD (by rfl) T.range (pa_cons (pe_maxD rfl (by rfl) T2.max (pa_cons (pv 0) pa_nil) (pk_cons pe_int pk_nil)) (pa_cons pe_int (pa_cons (pe_un un_neg pe_int) pa_nil)))) (pg_name (i := 2) sc_order.nd rfl (Or.inr rfl))
        (pss_cons (ps_compF (i := 3) (g := gTup K 2 (gCons (gName 0) (gCons (gName 1) gNil))) (te := tVar 0) (tc := tTest (tOp (rI0 fun i j => .bl (decide (j ≤ i))) (tVar 1) (tVar 2))) scc_order rfl rfl rfl (pi_enum (by rfl) T.enumerate (pa_cons (pv 0) pa_nil))
          (fun _ _ _ _ _ _ => pg_tup rfl (pgs_cons (pg_name (i := 0) ndc_order rfl (Or.inl rfl)) (pgs_cons (pg_name (i := 1) ndc_order rfl (Or.inl rfl)) pgs_nil))) (fun _ _ _ _ _ _ => pv 0) (fun _ _ _ _ _ _ => pt_cmpR op_ge (pv 1) (pv 2) (nomark _)) sc_order.nd rfl rfl rfl)
        (pss_one (ps_for PassesOwn.never rfl (pi_list (pe_def D1 hr1 (pa_cons (pv 3) pa_nil))) (pg_tup rfl (pgs_cons (pg_name (i := 4) sc_order.nd rfl (Or.inl rfl)) (pgs_cons (pg_name (i := 5) sc_order.nd rfl (Or.inl rfl)) pgs_nil)))
          (pss_one (ps_set (i := 1) sc_order.nd rfl (Or.inl rfl) (pe_def D2 hr1 (pa_cons (pv 1) (pa_cons (pv 4) (pa_cons (pv 5) pa_nil))))))))))
      (pss_one (ps_ret (pv 1)))), ?_⟩
    refine ⟨_, rfl, a, _, rfl, .inl hS, _, rfl, fun g hg => ?_⟩
    have s1 := Same.upd0 (o := .rng 0 ((vI row).length : Int)) hg
    refine ⟨g, 0, _, row.length, rfl, upd_same, by decide, by rw [ints_len]; omega, by rw [ints_len]; omega, by omega, fun tA hl => ?_⟩
    rw [iota_vN]
    have nT0 := s1.free hl
    have s2 := Same.upd (o := .lst (vN (List.range row.length))) s1 hl
    have e2 : upd (upd H g (.rng 0 ((vI row).length : Int))) tA (.lst (vN (List.range row.length))) tA = some (.lst (vN (List.range row.length))) := upd_same
    generalize upd (upd H g (.rng 0 ((vI row).length : Int))) tA (.lst (vN (List.range row.length))) = H2 at s2 e2 ⊢
    clear hl s1
    refine ⟨_, rfl, a, row, 0, rfl, rfl, s2.seq hS, fun M hM => ?_⟩
    obtain ⟨m0, m9, eO⟩ := theOrd_top hR hM
    refine ⟨_, rfl, M, 0, rfl, ⟨by omega, by omega, by decide, by decide⟩, ?_⟩
    rw [show M - 0 = M by omega]
    refine for_rangeD (hi := M) (n := M.toNat) (fun i σ H3 => ∃ (tA : Addr) (v2 v3 v4 v5 : Option V), σ = [some (.ref a), some (.ref tA), v2, v3, v4, v5] ∧ Same H H3 ∧ H tA = none ∧ H3 tA = some (.lst (vN (TM.ord (lvl row) i (M - i) (List.range row.length)))))
      ⟨tA, _, _, _, _, rfl, s2, nT0, e2⟩ ?_ ?_
    · clear e2 nT0 s2
      rintro i σ H3 hi ⟨tA, v2, v3, v4, v5, rfl, s3, nT, hT⟩
      dsimp only [gName]
      refine ⟨_, rfl, a, _, rfl, s3.seq hS, ?_⟩
      refine compF_it row.length (fun j ys σ' H4 => Same H3 H4 ∧ ys = vN (highs row (M - i) j) ∧ ∃ v0 v1 : Option V, σ' = [v0, v1, some (.int (M - i))]) (le_line (by omega)) ⟨Same.refl _, rfl, _, _, rfl⟩
        (fun j ys σ' H4 ⟨_, e, _⟩ => by rw [e, vN_len]; exact highs_len row _ j) ?_ ?_ ?_ ?_
      · rintro j ys σ' H4 hj ⟨s4, _, _⟩
        exact ⟨_, V.int (row[j]), (Same.trans s3 s4).seq hS, by rw [List.getElem?_map, List.getElem?_eq_getElem hj]; rfl⟩
      · rintro ys σ' H4 ⟨s4, _, _⟩
        exact ⟨_, (Same.trans s3 s4).seq hS, ints_len row⟩
      · rintro j ys σ' H4 v H5 C hj ⟨s4, rfl, v0, v1, rfl⟩ ⟨tp, x1, rfl, ntp, rfl, hx⟩ kk
        have ex := row_get (hx _ ((Same.trans s3 s4).seq hS))
        subst ex
        refine ⟨tp, _, rfl, SqT.of upd_same, rfl, _, _, rfl, _, _, rfl, rfl, ?_⟩
        refine ⟨_, rfl, _, rfl, _, _, rfl, rfl, _, rfl, ?_⟩
        refine bOf (fun h1 => ?_) (fun h1 => ?_)
        · refine ⟨_, rfl, kk _ _ _ ⟨Same.upd s4 ntp, ?_, _, _, rfl⟩⟩
          rw [highs_succ, if_pos (of_decide_eq_true h1), vN_snoc]
        · refine kk _ _ _ ⟨Same.upd s4 ntp, ?_, _, _, rfl⟩
          rw [highs_succ, if_neg (of_decide_eq_false h1), List.append_nil]
      · rintro ys σ' H4 ⟨s4, rfl, _⟩ hA nH
        have s5 := Same.trans s3 (Same.upd (o := .lst (vN (highs row (M - i) row.length))) s4 nH)
        have t5 := Same.upd (o := .lst (vN (highs row (M - i) row.length))) s4 nH _ _ hT
        have h5 : upd H4 hA (.lst (vN (highs row (M - i) row.length))) hA = some (.lst (vN (highs row (M - i) row.length))) := upd_same
        generalize upd H4 hA (.lst (vN (highs row (M - i) row.length))) = H5 at s5 t5 h5 ⊢
        have hhl := highs_len row (M - i) row.length
        refine ⟨_, rfl, hA, _, rfl, SqL.of h5, by omega, fun rA as H6 s6 nR hRr hTup => ?_⟩
        refine ⟨rA, rfl, ⟨_, SqL.of hRr⟩, ?_⟩
        have hrows := highs_rows row (M - i)
        have hturn := highs_turn row i (M - i)
        have hol : (TM.ord (lvl row) i (M - i) (List.range row.length)).length = row.length := by rw [(TM.ord_perm i (M - i) _).length_eq, List.length_range]
        generalize lrows (highs row (M - i) row.length) = L at hTup hrows hturn
        generalize TM.ord (lvl row) i (M - i) (List.range row.length) = T0 at t5 hturn hol
        refine for_list (K := K) (xs := as.map V.ref) (fun j σ H7 => ∃ (tA : Addr) (v4 v5 : Option V), σ = [some (.ref a), some (.ref tA), some (.int (M - i)), some (.ref hA), v4, v5] ∧ Same H6 H7 ∧ H tA = none ∧ H7 tA = some (.lst (vN ((L.take j).foldl turn1 T0))))
          ⟨tA, _, _, rfl, Same.refl _, nT, s6 _ _ t5⟩ ?_ ?_ ?_
        · rintro j σ H7 _ ⟨tA, v4, v5, rfl, s7, nT, hT⟩
          exact SqL.of (s7 _ _ hRr)
        · rintro j x σ H7 hx ⟨tA, v4, v5, rfl, s7, nT, hT⟩
          obtain ⟨t, ht, rfl⟩ := refs_get hx
          obtain ⟨y, hy, hty⟩ := hTup.at ht
          obtain ⟨x, hx', rfl⟩ := toF_get hy
          have hin := hrows x (List.mem_of_getElem? hx')
          have htl : ((L.take j).foldl turn1 T0).length = row.length := by
            rw [turns_len (fun y hy => by rw [hol]; exact hrows y (List.mem_of_mem_take hy)), hol]
          refine ⟨t, _, rfl, SqT.of (s7 _ _ hty), rfl, _, _, rfl, _, _, rfl, rfl, ?_⟩
          refine ⟨_, rfl, _, rfl, _, rfl, tA, _, x, rfl, SqL.of hT, hin.1, by rw [htl]; exact hin.2, by rw [htl]; exact hlen, fun p H8 s8 nP hP => ?_⟩
          refine ⟨p, _, _, rfl, Same.trans s7 s8, (Same.trans (Same.trans s5 s6) s7).free nP, ?_⟩
          rw [foldl_take_succ turn1 T0 hx']
          exact hP
        · rintro σ H7 ⟨tA, v4, v5, rfl, s7, nT, hT⟩
          refine ⟨tA, _, _, _, _, rfl, Same.trans (Same.trans s5 s6) s7, nT, ?_⟩
          have el : (as.map V.ref).length = L.length := by rw [List.length_map, hTup.len, toF_len]
          rw [el, List.take_length, hturn] at hT
          rw [hT, show M - ((i + 1 : Nat) : Int) = M - (i : Int) - 1 by omega]
    · rintro σ H3 ⟨tA, v2, v3, v4, v5, rfl, s3, nT, hT⟩
      refine ⟨_, rfl, k tA H3 s3 nT ?_⟩
      rw [show M - (M.toNat : Int) = 0 by omega, eO] at hT
      exact hT
theorem sc_seen_at : FnScope ["levels", "told", "seen", "place"] ["levels"] (defScope s_seen_at) := ⟨rfl, rfl, rfl, by decide +kernel, rfl, by decide +kernel, by decide +kernel⟩
theorem ok_seen_at {f : Addr} {fd : FuncData} (F : Fun K "seen_at" "seen_at" s_seen_at f fd) (T : Blt mg) (D1 : Def P w K mg base "order" 3 ["levels"] (spOrder K)) : FnOk P w K mg base CX0 4 f fd ["levels"] (spSeenAt K) := by
  refine F.ok sc_seen_at (fun vs H Q E h => ?_) (fun cdv A outer s H vs Q E hr h => ?_)
  · obtain ⟨a, row, rfl, _⟩ := h
    rfl
  · obtain ⟨a, row, rfl, hS, hR, k⟩ := h
    have hlen := hR.len
    refine ⟨_, pss_cons (ps_set (i := 1) sc_seen_at.nd rfl (Or.inl rfl) (pe_op op_rep (pe_lst (pa_cons pe_int pa_nil)) (pe_callB call_len_seq (by rfl) T.len PySem.boot_len (pa_cons (pv 0) pa_nil))))
      (pss_cons (ps_for PassesOwn.never rfl (pi_enum (by rfl) T.enumerate (pa_cons (pe_def D1 hr (pa_cons (pv 0) pa_nil)) pa_nil)) (pg_tup rfl (pgs_cons (pg_name (i := 2) sc_seen_at.nd rfl (Or.inl rfl)) (pgs_cons (pg_name (i := 3) sc_seen_at.nd rfl (Or.inl rfl)) pgs_nil)))
        (pss_one (ps_asg (pv 2) (pg_sub (pv 1) (pv 3) set_list))))
      (pss_one (ps_ret (pv 1)))), ?_⟩
    refine ⟨by decide, fun oA nO => ?_⟩
    have s1 := Same.upd0 (o := .lst [V.int 0]) nO
    have e1 : upd H oA (.lst [V.int 0]) oA = some (.lst [V.int 0]) := upd_same
    generalize upd H oA (.lst [V.int 0]) = H1 at s1 e1 ⊢
    refine ⟨_, rfl, a, _, rfl, .inl (s1.seq hS), oA, _, _, rfl, rfl, e1, by omega, by rw [ints_len]; omega, le_line (by rw [ints_len, Int.toNat_natCast]; show 1 * row.length ≤ 1000; omega), fun tA nT => ?_⟩
    rw [ints_len, Int.toNat_natCast, zeros_vN, ← seenI_zero (theOrd row)]
    have ht0 : H tA = none := s1.free nT
    have s2 := Same.upd (o := .lst (vN (seenI (theOrd row) row.length 0))) s1 nT
    have e2 : upd H1 tA (.lst (vN (seenI (theOrd row) row.length 0))) tA = some (.lst (vN (seenI (theOrd row) row.length 0))) := upd_same
    generalize upd H1 tA (.lst (vN (seenI (theOrd row) row.length 0))) = H2 at s2 e2 ⊢
    refine ⟨_, rfl, a, row, rfl, s2.seq hS, hR, fun dA H3 s3 nD hD => ?_⟩
    have hne : dA ≠ tA := (ne_of_none e2 nD).symm
    refine ⟨dA, _, rfl, SqL.of hD, ?_⟩
    refine for_it row.length (fun i σ H4 => ∃ (v2 v3 : Option V), σ = [some (.ref a), some (.ref tA), v2, v3] ∧ Same H H4 ∧ H4 dA = some (.lst (vN (theOrd row))) ∧ H4 tA = some (.lst (vN (seenI (theOrd row) row.length i)))) ⟨_, _, rfl, Same.trans s2 s3, hD, s3 _ _ e2⟩ ?_ ?_ ?_ ?_
    · rintro i σ H4 hi ⟨v2, v3, rfl, s4, hD4, hT4⟩
      have hi' : i < (theOrd row).length := by rw [theOrd_len]; exact hi
      exact ⟨_, V.int (((theOrd row)[i] : Nat) : Int), SqL.of hD4, by rw [List.getElem?_map, List.getElem?_eq_getElem hi']; rfl⟩
    · rintro σ H4 ⟨v2, v3, rfl, s4, hD4, hT4⟩
      exact ⟨_, SqL.of hD4, by rw [vN_len, theOrd_len]⟩
    · rintro i σ H4 x H5 hi ⟨v2, v3, rfl, s4, hD4, hT4⟩ ⟨tp, x1, rfl, ntp, rfl, hx⟩
      obtain ⟨m, hm, rfl⟩ := vN_get (hx _ (SqL.of hD4))
      have hi' : i < (theOrd row).length := by rw [theOrd_len]; exact hi
      have em : (theOrd row)[i] = m := by rw [List.getElem?_eq_getElem hi'] at hm; exact Option.some.inj hm
      have hmn : m < row.length := theOrd_mem.mp (by rw [← em]; exact List.getElem_mem hi')
      refine ⟨tp, _, rfl, SqT.of upd_same, rfl, _, _, rfl, _, _, rfl, rfl, ?_⟩
      have hT5 : upd H4 tp (.tup [.int (i : Int), .int (m : Int)]) tA = some (.lst (vN (seenI (theOrd row) row.length i))) := (upd_ne (ne_of_none hT4 ntp)).trans hT4
      refine ⟨_, rfl, _, rfl, _, rfl, tA, _, _, m, rfl, rfl, hT5, by rw [vN_len, seenI_len]; exact ix_nat hmn, ?_⟩
      refine ⟨_, _, rfl, Same.updT (Same.upd s4 ntp) ht0, ?_, ?_⟩
      · rw [upd_ne hne, upd_ne (ne_of_none hD4 ntp)]; exact hD4
      · rw [upd_same, vN_set, ← seenI_step (theOrd_nodup row) hi', em]
    · rintro σ H4 ⟨v2, v3, rfl, s4, hD4, hT4⟩
      refine ⟨_, rfl, k tA H4 s4 ht0 ?_⟩
      have e := seenI_end (T := theOrd row) (n := row.length) (fun p hp => theOrd_mem.mpr hp)
      rw [theOrd_len] at e
      rw [hT4, e]
      rfl
theorem sc_begin_edge : FnScope ["level", "seen"] ["level", "seen"] (defScope s_begin_edge) := ⟨rfl, rfl, rfl, by decide +kernel, rfl, by decide +kernel, by decide +kernel⟩
theorem ok_begin_edge {f : Addr} {fd : FuncData} (F : Fun K "begin_edge" "begin_edge" s_begin_edge f fd) : FnOk P w K mg base CX0 1 f fd ["level", "seen"] spEdgeB := by
  refine F.ok sc_begin_edge (fun vs H Q E h => ?_) (fun cdv A outer s H vs Q E hr h => ?_)
  · obtain ⟨l, x, rfl, _⟩ := h
    rfl
  · obtain ⟨l, x, rfl, k⟩ := h
    refine ⟨_, pss_one (ps_ret (pe_ifExp (pt_cmpR op_eq (pe_op op_mod (pv 0) pe_int) pe_int (nomark _)) (pv 1) (pe_op op_add (pv 1) pe_int))), ?_⟩
    refine ⟨_, rfl, _, _, rfl, rfl, (by show (0 : Int) < 2; decide), rfl, _, rfl, ?_⟩
    refine bOf (fun h1 => ?_) (fun h1 => ?_)
    · have h1 : l % 2 = 0 := by
        have : V.int (l % 2) = V.int 0 := of_decide_eq_true h1
        injection this
      refine ⟨_, rfl, ?_⟩
      rw [h1, Int.add_zero] at k
      exact k
    · have h1 : ¬ l % 2 = 0 := fun e => of_decide_eq_false h1 (congrArg V.int e)
      refine ⟨_, rfl, _, _, rfl, rfl, ?_⟩
      rw [show l % 2 = 1 by omega] at k
      exact k
theorem sc_end_edge : FnScope ["level", "seen"] ["level", "seen"] (defScope s_end_edge) := ⟨rfl, rfl, rfl, by decide +kernel, rfl, by decide +kernel, by decide +kernel⟩
theorem ok_end_edge {f : Addr} {fd : FuncData} (F : Fun K "end_edge" "end_edge" s_end_edge f fd) : FnOk P w K mg base CX0 1 f fd ["level", "seen"] spEdgeE := by
  refine F.ok sc_end_edge (fun vs H Q E h => ?_) (fun cdv A outer s H vs Q E hr h => ?_)
  · obtain ⟨l, x, rfl, _⟩ := h
    rfl
  · obtain ⟨l, x, rfl, k⟩ := h
    refine ⟨_, pss_one (ps_ret (pe_ifExp (pt_cmpR op_eq (pe_op op_mod (pv 0) pe_int) pe_int (nomark _)) (pe_op op_add (pv 1) pe_int) (pv 1))), ?_⟩
    refine ⟨_, rfl, _, _, rfl, rfl, (by show (0 : Int) < 2; decide), rfl, _, rfl, ?_⟩
    refine bOf (fun h1 => ?_) (fun h1 => ?_)
    · have h1 : l % 2 = 0 := by
        have : V.int (l % 2) = V.int 0 := of_decide_eq_true h1
        injection this
      refine ⟨_, rfl, _, _, rfl, rfl, ?_⟩
      rw [h1, Int.sub_zero] at k
      exact k
    · have h1 : ¬ l % 2 = 0 := fun e => of_decide_eq_false h1 (congrArg V.int e)
      refine ⟨_, rfl, ?_⟩
      rw [show l % 2 = 1 by omega, show x + 1 - 1 = x by omega] at k
      exact k
def scx1_carets : Scope := match s_carets with
  | .FunctionDef _ _ (_ :: .Assign _ (.ListComp _ _ sc _) _ :: _) _ _ _ _ _ _ _ => sc
  | _ => { kind := .function, names := [], isGenerator := false, isCoroutine := false }
def scx2_carets : Scope := match s_carets with
  | .FunctionDef _ _ (_ :: _ :: .Assign _ (.ListComp _ _ sc _) _ :: _) _ _ _ _ _ _ _ => sc
  | _ => { kind := .function, names := [], isGenerator := false, isCoroutine := false }
theorem sc_carets : FnScope ["levels", "seen_places", "ends", "begins"] ["levels"] (defScope s_carets) := ⟨rfl, rfl, rfl, by decide +kernel, rfl, by decide +kernel, by decide +kernel⟩
theorem scc1_carets : CompSc (defScope s_carets) ["levels", "seen_places", "ends", "begins"] ["level", "seen"] [] [] scx1_carets :=
  ⟨by decide +kernel, by decide +kernel, by decide +kernel, by decide +kernel, by decide +kernel, by decide +kernel, by decide +kernel⟩
theorem scc2_carets : CompSc (defScope s_carets) ["levels", "seen_places", "ends", "begins"] ["level", "seen"] [] [] scx2_carets :=
  ⟨by decide +kernel, by decide +kernel, by decide +kernel, by decide +kernel, by decide +kernel, by decide +kernel, by decide +kernel⟩
theorem ndc_carets : (["level", "seen"] : List Str).Nodup := by decide +kernel
theorem tups_of {H : Hp} : ∀ {as : List Addr} {prs : List Face}, as.length = prs.length → (∀ (i : Nat) a x, as[i]? = some a → prs[i]? = some x → H a = some (.tup [faceV x.1, faceV x.2])) → TupsAt H as prs
  | [], [], _, _ => .nil
  | [], _ :: _, h, _ => by simp at h
  | _ :: _, [], h, _ => by simp at h
  | a :: as, x :: prs, h, k => .cons (k 0 a x rfl rfl) (tups_of (by simpa using h) fun i a x h1 h2 => k (i + 1) a x h1 h2)
theorem ok_carets {f : Addr} {fd : FuncData} (F : Fun K "carets" "carets" s_carets f fd) (T : Blt mg) (D1 : Def P w K mg base "seen_at" 4 ["levels"] (spSeenAt K)) (D2 : Def P w K mg base "begin_edge" 1 ["level", "seen"] spEdgeB) (D3 : Def P w K mg base "end_edge" 1 ["level", "seen"] spEdgeE) :
    FnOk P w K mg base CX0 5 f fd ["levels"] (spCarets K) := by
  refine F.ok sc_carets (fun vs H Q E h => ?_) (fun cdv A outer s H vs Q E hr h => ?_)
  · obtain ⟨a, row, rfl, _⟩ := h
    rfl
  · obtain ⟨a, row, rfl, hS, hR, k⟩ := h
    have hlen := hR.len
    have hr1 : Room 1 _ := hr.mono (by decide)
    refine ⟨_, pss_cons (ps_set (i := 1) sc_carets.nd rfl (Or.inl rfl) (pe_def D1 hr (pa_cons (pv 0) pa_nil)))
      (pss_cons (ps_comp (i := 2) (g := gTup K 2 (gCons (gName 0) (gCons (gName 1) gNil))) (te := tCall spEdgeE [] E0 (tCons (tVar 0) (tCons (tVar 1) tNil))) scc1_carets rfl rfl rfl (pi_zip2 (by rfl) T.zip (pa_cons (pv 0) (pa_cons (pv 1) pa_nil)))
        (fun _ _ _ _ _ _ => pg_tup rfl (pgs_cons (pg_name (i := 0) ndc_carets rfl (Or.inl rfl)) (pgs_cons (pg_name (i := 1) ndc_carets rfl (Or.inl rfl)) pgs_nil))) (fun _ _ _ _ _ _ => pe_def D3 hr1 (pa_cons (pv 0) (pa_cons (pv 1) pa_nil))) sc_carets.nd rfl rfl rfl)
      (pss_cons (ps_comp (i := 3) (g := gTup K 2 (gCons (gName 0) (gCons (gName 1) gNil))) (te := tCall spEdgeB [] E0 (tCons (tVar 0) (tCons (tVar 1) tNil))) scc2_carets rfl rfl rfl (pi_zip2 (by rfl) T.zip (pa_cons (pv 0) (pa_cons (pv 1) pa_nil)))
        (fun _ _ _ _ _ _ => pg_tup rfl (pgs_cons (pg_name (i := 0) ndc_carets rfl (Or.inl rfl)) (pgs_cons (pg_name (i := 1) ndc_carets rfl (Or.inl rfl)) pgs_nil))) (fun _ _ _ _ _ _ => pe_def D2 hr1 (pa_cons (pv 0) (pa_cons (pv 1) pa_nil))) sc_carets.nd rfl rfl rfl)
      (pss_one (ps_ret (pe_list_zip rfl (by rfl) T.list (by rfl) T.zip (pa_cons (pe_op op_cat (pe_lst (pa_cons pe_non pa_nil)) (pv 2)) (pa_cons (pe_op op_cat (pv 3) (pe_lst (pa_cons pe_non pa_nil))) pa_nil))))))), ?_⟩
    refine ⟨_, rfl, a, row, rfl, hS, hR, fun sA H1 s1 nS hs => ?_⟩
    have seen_i : ∀ (i : Nat) (x : V), (vN (seenL row))[i]? = some x → x = V.int (idx row i) := fun i x hx => by
      obtain ⟨m, hm, rfl⟩ := vN_get hx
      have hi : i < row.length := by
        have := (List.getElem?_eq_some_iff.mp hm).1
        rwa [seenL_len] at this
      unfold seenL at hm
      rw [List.getElem?_map, List.getElem?_range hi] at hm
      have : (theOrd row).idxOf i = m := Option.some.inj hm
      unfold idx
      rw [this]
    have sat : ∀ i, i < row.length → (vN (seenL row))[i]? = some (V.int (idx row i)) := fun i hi => by
      unfold seenL
      rw [List.getElem?_map, List.getElem?_map, List.getElem?_range hi]
      rfl
    have rat : ∀ i, i < row.length → (vI row)[i]? = some (V.int (lvl row i)) := fun i hi => by
      rw [List.getElem?_map, List.getElem?_eq_getElem hi]
      unfold lvl
      rw [List.getD_eq_getElem?_getD, List.getElem?_eq_getElem hi]
      rfl
    -- ends
    dsimp only [gName]
    refine ⟨_, rfl, _, rfl, _, _, _, _, rfl, .lst (s1.seq hS), .lst (SqL.of hs), ?_⟩
    refine comp_it row.length (fun i ys σ' H2 => Same H1 H2 ∧ ys = vI ((List.range i).map (edgeE row)) ∧ ∃ v0 v1 : Option V, σ' = [v0, v1]) (le_line (by omega)) ⟨Same.refl _, rfl, _, _, rfl⟩ (fun i ys σ' H2 ⟨_, e, _⟩ => by rw [e, ints_len]; simp) ?_ ?_ ?_ ?_
    · rintro i ys σ' H2 hi ⟨s2, _, _⟩
      exact ⟨⟨_, _, (Same.trans s1 s2).seq hS, rat i hi⟩, ⟨_, _, SqL.of (s2 _ _ hs), sat i hi⟩⟩
    · rintro ys σ' H2 ⟨s2, _, _⟩
      exact ⟨_, (Same.trans s1 s2).seq hS, ints_len row⟩
    · rintro i ys σ' H2 v H3 C' hi ⟨s2, rfl, v0, v1, rfl⟩ ⟨tp, x1, x2, rfl, ntp, rfl, hx1, hx2⟩ kk
      have e1 := row_get (hx1 _ ((Same.trans s1 s2).seq hS))
      have e2 := seen_i i x2 (hx2 _ (SqL.of (s2 _ _ hs)))
      subst e1 e2
      refine ⟨tp, _, rfl, SqT.of upd_same, rfl, _, _, rfl, _, _, rfl, rfl, ?_⟩
      refine ⟨_, rfl, _, rfl, _, _, rfl, kk _ _ _ ⟨Same.upd s2 ntp, ?_, _, _, rfl⟩⟩
      rw [ints_snoc]
      exact congrArg vI (range_snoc (edgeE row) i)
    rintro ys σ' H2 ⟨s2, rfl, _⟩ eA neA
    have s3 := Same.upd (o := .lst (vI ((List.range row.length).map (edgeE row)))) s2 neA
    have hE : upd H2 eA (.lst (vI ((List.range row.length).map (edgeE row)))) eA = some (.lst (vI ((List.range row.length).map (edgeE row)))) := upd_same
    have hs3 := s3 _ _ hs
    have s03 := Same.trans s1 s3
    generalize upd H2 eA (.lst (vI ((List.range row.length).map (edgeE row)))) = H3 at s3 hE hs3 s03 ⊢
    clear s2 neA s3
    -- begins
    dsimp only [gName]
    refine ⟨_, rfl, _, rfl, _, _, _, _, rfl, .lst (s03.seq hS), .lst (SqL.of hs3), ?_⟩
    refine comp_it row.length (fun i ys σ' H4 => Same H3 H4 ∧ ys = vI ((List.range i).map (edgeB row)) ∧ ∃ v0 v1 : Option V, σ' = [v0, v1]) (le_line (by omega)) ⟨Same.refl _, rfl, _, _, rfl⟩ (fun i ys σ' H2 ⟨_, e, _⟩ => by rw [e, ints_len]; simp) ?_ ?_ ?_ ?_
    · rintro i ys σ' H4 hi ⟨s4, _, _⟩
      exact ⟨⟨_, _, (Same.trans s03 s4).seq hS, rat i hi⟩, ⟨_, _, SqL.of (s4 _ _ hs3), sat i hi⟩⟩
    · rintro ys σ' H4 ⟨s4, _, _⟩
      exact ⟨_, (Same.trans s03 s4).seq hS, ints_len row⟩
    · rintro i ys σ' H4 v H5 C' hi ⟨s4, rfl, v0, v1, rfl⟩ ⟨tp, x1, x2, rfl, ntp, rfl, hx1, hx2⟩ kk
      have e1 := row_get (hx1 _ ((Same.trans s03 s4).seq hS))
      have e2 := seen_i i x2 (hx2 _ (SqL.of (s4 _ _ hs3)))
      subst e1 e2
      refine ⟨tp, _, rfl, SqT.of upd_same, rfl, _, _, rfl, _, _, rfl, rfl, ?_⟩
      refine ⟨_, rfl, _, rfl, _, _, rfl, kk _ _ _ ⟨Same.upd s4 ntp, ?_, _, _, rfl⟩⟩
      rw [ints_snoc]
      exact congrArg vI (range_snoc (edgeB row) i)
    rintro ys σ' H4 ⟨s4, rfl, _⟩ bA nbA
    have s5 := Same.trans s03 (Same.upd (o := .lst (vI ((List.range row.length).map (edgeB row)))) s4 nbA)
    have hE5 := Same.upd (o := .lst (vI ((List.range row.length).map (edgeB row)))) s4 nbA _ _ hE
    have hB5 : upd H4 bA (.lst (vI ((List.range row.length).map (edgeB row)))) bA = some (.lst (vI ((List.range row.length).map (edgeB row)))) := upd_same
    generalize upd H4 bA (.lst (vI ((List.range row.length).map (edgeB row)))) = H5 at s5 hE5 hB5 ⊢
    clear s4 nbA hE hs3 s03
    have lE : (vI ((List.range row.length).map (edgeE row))).length = row.length := by rw [ints_len]; simp
    have lB : (vI ((List.range row.length).map (edgeB row))).length = row.length := by rw [ints_len]; simp
    -- None ahead, None behind
    dsimp only [gName]
    refine ⟨by decide, fun n1 hn1 => ?_⟩
    have s6 := Same.upd (o := .lst [V.non]) s5 hn1
    have hE6 := Same.upd0 (o := .lst [V.non]) hn1 _ _ hE5
    have hB6 := Same.upd0 (o := .lst [V.non]) hn1 _ _ hB5
    have f6 : upd H5 n1 (.lst [V.non]) n1 = some (.lst [V.non]) := upd_same
    generalize upd H5 n1 (.lst [V.non]) = H6 at s6 hE6 hB6 f6 ⊢
    refine ⟨_, rfl, n1, eA, _, _, rfl, rfl, f6, hE6, le_line (by rw [lE]; show 1 + row.length ≤ 1000; omega), fun c1 hc1 => ?_⟩
    have s7 := Same.upd (o := .lst ([V.non] ++ vI ((List.range row.length).map (edgeE row)))) s6 hc1
    have hB7 := Same.upd0 (o := .lst ([V.non] ++ vI ((List.range row.length).map (edgeE row)))) hc1 _ _ hB6
    have f7 : upd H6 c1 (.lst ([V.non] ++ vI ((List.range row.length).map (edgeE row)))) c1 = some (.lst ([V.non] ++ vI ((List.range row.length).map (edgeE row)))) := upd_same
    generalize upd H6 c1 (.lst ([V.non] ++ vI ((List.range row.length).map (edgeE row)))) = H7 at s7 hB7 f7 ⊢
    refine ⟨_, rfl, by decide, fun n2 hn2 => ?_⟩
    have s8 := Same.upd (o := .lst [V.non]) s7 hn2
    have hB8 := Same.upd0 (o := .lst [V.non]) hn2 _ _ hB7
    have f8 := Same.upd0 (o := .lst [V.non]) hn2 _ _ f7
    have g8 : upd H7 n2 (.lst [V.non]) n2 = some (.lst [V.non]) := upd_same
    generalize upd H7 n2 (.lst [V.non]) = H8 at s8 hB8 f8 g8 ⊢
    refine ⟨bA, n2, _, _, rfl, rfl, hB8, g8, le_line (by rw [lB]; show row.length + 1 ≤ 1000; omega), fun c2 hc2 => ?_⟩
    have s9 := Same.upd (o := .lst (vI ((List.range row.length).map (edgeB row)) ++ [V.non])) s8 hc2
    have f9 := Same.upd0 (o := .lst (vI ((List.range row.length).map (edgeB row)) ++ [V.non])) hc2 _ _ f8
    have g9 : upd H8 c2 (.lst (vI ((List.range row.length).map (edgeB row)) ++ [V.non])) c2 = some (.lst (vI ((List.range row.length).map (edgeB row)) ++ [V.non])) := upd_same
    generalize upd H8 c2 (.lst (vI ((List.range row.length).map (edgeB row)) ++ [V.non])) = H9 at s9 f9 g9 ⊢
    have l1 : ([V.non] ++ vI ((List.range row.length).map (edgeE row))).length = row.length + 1 := by rw [List.length_append, lE]; show 1 + row.length = _; omega
    have l2 : (vI ((List.range row.length).map (edgeB row)) ++ [V.non]).length = row.length + 1 := by rw [List.length_append, lB]; rfl
    refine ⟨c1, c2, _, _, rfl, SqL.of f9, SqL.of g9, by rw [l1, l2], by rw [l1]; omega, fun ts l H10 s10 hts htup nl nl9 => ?_⟩
    rw [l1] at hts
    refine k l ts _ (Same.trans s9 (Same.upd s10 nl)) (s9.free nl9) upd_same (tups_of (by rw [hts, carets_len]) fun i t x h1 h2 => ?_)
    have hi : i ≤ row.length := by
      have := (List.getElem?_eq_some_iff.mp h1).1
      omega
    rw [carets_at hi] at h2
    cases h2
    have hx : ([V.non] ++ vI ((List.range row.length).map (edgeE row)))[i]? = some (faceV (caret row i).1) := by
      cases i with
      | zero => rfl
      | succ p =>
        have hp : p < row.length := by omega
        show (vI ((List.range row.length).map (edgeE row)))[p]? = _
        rw [List.getElem?_map, List.getElem?_map, List.getElem?_range hp]
        unfold caret
        simp only
        rw [if_neg (by omega)]
        rfl
    have hy : (vI ((List.range row.length).map (edgeB row)) ++ [V.non])[i]? = some (faceV (caret row i).2) := by
      by_cases hp : i < row.length
      · rw [List.getElem?_append_left (by rw [lB]; exact hp), List.getElem?_map, List.getElem?_map, List.getElem?_range hp]
        unfold caret
        simp only
        rw [if_pos hp]
        rfl
      · rw [List.getElem?_append_right (by rw [lB]; omega), lB, show i - row.length = 0 by omega]
        unfold caret
        simp only
        rw [if_neg hp]
        rfl
    have ht := htup i t _ _ h1 hx hy
    rw [upd_ne (ne_of_none ht nl)]
    exact ht
theorem sc_cell_at : FnScope ["script", "k"] ["script", "k"] (defScope s__law_cell_at) := ⟨rfl, rfl, rfl, by decide +kernel, rfl, by decide +kernel, by decide +kernel⟩
theorem ok_cell_at {f : Addr} {fd : FuncData} (F : Fun K "_law_cell_at" "_law_cell_at" s__law_cell_at f fd) (T : Blt mg) : FnOk P w K mg base CX0 1 f fd ["script", "k"] (spCell K) := by
  refine F.ok sc_cell_at (fun vs H Q E h => ?_) (fun cdv A outer s H vs Q E hr h => ?_)
  · obtain ⟨a, ns, k, rfl, _⟩ := h
    rfl
  · obtain ⟨a, ns, j, rfl, hS, h0, k⟩ := h
    refine ⟨_, pss_cons (ps_if (pt_cmpR op_lt (pv 1) (pe_callB call_len_seq (by rfl) T.len PySem.boot_len (pa_cons (pv 0) pa_nil)) (nomark _)) (pss_one (ps_ret (pe_ix ix_list (pv 0) (pv 1) (fun _ _ => rfl)))) pss_nil)
      (pss_one (ps_ret pe_int)), ?_⟩
    refine ⟨_, rfl, _, rfl, a, _, rfl, .inl hS, _, _, rfl, rfl, _, rfl, ?_⟩
    rw [List.length_map]
    refine bOf (fun h1 => ?_) (fun h1 => ?_)
    · have h1' : j < (ns.length : Int) := of_decide_eq_true h1
      have hj : j.toNat < ns.length := by omega
      exact ⟨_, rfl, _, rfl, a, _, _, V.int (ns.getD j.toNat 0), rfl, rfl, hS, ints_at h0 h1', k⟩
    · have h1' : ¬ j < (ns.length : Int) := of_decide_eq_false h1
      have e : ns.getD j.toNat 0 = 0 := by
        rw [List.getD_eq_getElem?_getD, List.getElem?_eq_none (by omega)]
        rfl
      rw [e] at k
      exact k
theorem sc_pick : FnScope ["script", "k"] ["script", "k"] (defScope s__law_pick) := ⟨rfl, rfl, rfl, by decide +kernel, rfl, by decide +kernel, by decide +kernel⟩
theorem ok_pick {f : Addr} {fd : FuncData} (F : Fun K "_law_pick" "_law_pick" s__law_pick f fd) (T : Blt mg) (D : Def P w K mg base "_law_cell_at" 1 ["script", "k"] (spCell K)) : FnOk P w K mg base CX0 2 f fd ["script", "k"] (spPick K) := by
  refine F.ok sc_pick (fun vs H Q E h => ?_) (fun cdv A outer s H vs Q E hr h => ?_)
  · obtain ⟨a, ns, k, rfl, _⟩ := h
    rfl
  · obtain ⟨a, ns, j, rfl, hS, h0, k⟩ := h
    refine ⟨_, pss_cons (ps_if (pt_cmpR op_lt (pv 1) (pe_callB call_len_seq (by rfl) T.len PySem.boot_len (pa_cons (pv 0) pa_nil)) (nomark _)) (pss_one (ps_ret (pe_ix ix_list (pv 0) (pv 1) (fun _ _ => rfl)))) pss_nil)
      (pss_one (ps_ret (pe_op op_fdiv (pe_op op_mod (pe_op op_mul (pe_op op_add (pe_op op_add (pe_def D hr (pa_cons (pv 0) (pa_cons pe_int pa_nil))) (pe_op op_mul pe_int (pv 1))) pe_int) pe_int) pe_int) pe_int))), ?_⟩
    refine ⟨_, rfl, _, rfl, a, _, rfl, .inl hS, _, _, rfl, rfl, _, rfl, ?_⟩
    rw [List.length_map]
    refine bOf (fun h1 => ?_) (fun h1 => ?_)
    · have h1' : j < (ns.length : Int) := of_decide_eq_true h1
      exact ⟨_, rfl, _, rfl, a, _, _, _, rfl, rfl, hS, ints_at h0 h1', k _⟩
    · refine ⟨_, rfl, a, ns, 0, rfl, hS, Int.le_refl _, _, rfl, _, _, rfl, rfl, .inl ⟨by decide, by decide⟩, _, _, rfl, rfl, _, _, rfl, rfl, _, _, rfl, rfl, .inr ⟨by decide, by decide⟩, _, _, rfl, rfl, (by show (0 : Int) < 2147483647; decide), _, _, rfl, rfl, ⟨by decide, by decide⟩, k _⟩
theorem sc_mix : FnScope ["cell", "k", "mixed"] ["cell", "k"] (defScope s__law_mix) := ⟨rfl, rfl, rfl, by decide +kernel, rfl, by decide +kernel, by decide +kernel⟩
theorem ok_mix {f : Addr} {fd : FuncData} (F : Fun K "_law_mix" "_law_mix" s__law_mix f fd) : FnOk P w K mg base CX0 1 f fd ["cell", "k"] spMix := by
  refine F.ok sc_mix (fun vs H Q E h => ?_) (fun cdv A outer s H vs Q E hr h => ?_)
  · obtain ⟨a, b, rfl, _⟩ := h
    rfl
  · obtain ⟨a, b, rfl, k⟩ := h
    refine ⟨_, pss_cons (ps_set (i := 2) sc_mix.nd rfl (Or.inl rfl) (pe_op op_mod (pe_op op_add (pe_op op_add (pe_op op_mul (pv 0) pe_int) (pe_op op_mul pe_int (pv 1))) pe_int) pe_int))
      (pss_one (ps_ret (pe_op op_mod (pe_op op_add (pe_op op_add (pe_op op_mul (pv 2) (pv 2)) (pe_op op_mul pe_int (pv 2))) (pv 1)) pe_int))), ?_⟩
    refine ⟨_, rfl, _, _, rfl, rfl, .inr ⟨by decide, by decide⟩, _, rfl, _, _, rfl, rfl, .inl ⟨by decide, by decide⟩, _, _, rfl, rfl, _, _, rfl, rfl, _, _, rfl, rfl, (by show (0 : Int) < 2147483629; decide), ?_⟩
    have h0 : 0 ≤ (a * 69621 + 7001 * b + 3) % 2147483629 := Int.emod_nonneg _ (by decide)
    have h1 : (a * 69621 + 7001 * b + 3) % 2147483629 < 2147483629 := Int.emod_lt_of_pos _ (by decide)
    exact ⟨_, rfl, _, rfl, _, _, rfl, rfl, .inl ⟨by omega, by omega⟩, _, rfl, _, _, rfl, rfl, .inl ⟨by decide, by decide⟩, _, _, rfl, rfl, _, rfl, _, _, rfl, rfl, _, _, rfl, rfl, (by show (0 : Int) < 2147483647; decide), k _⟩
theorem sc_size : FnScope ["cell"] ["cell"] (defScope s__law_size) := ⟨rfl, rfl, rfl, by decide +kernel, rfl, by decide +kernel, by decide +kernel⟩
theorem ok_size {f : Addr} {fd : FuncData} (F : Fun K "_law_size" "_law_size" s__law_size f fd) : FnOk P w K mg base CX0 1 f fd ["cell"] spSize := by
  refine F.ok sc_size (fun vs H Q E h => ?_) (fun cdv A outer s H vs Q E hr h => ?_)
  · obtain ⟨a, rfl, _⟩ := h
    rfl
  · obtain ⟨a, rfl, k⟩ := h
    refine ⟨_, pss_cons (ps_if (pt_cmpR op_eq (pe_op op_mod (pe_op op_fdiv (pv 0) pe_int) pe_int) pe_int (nomark _)) (pss_one (ps_ret pe_int)) pss_nil) (pss_one (ps_ret (pe_op op_mod (pv 0) pe_int))), ?_⟩
    refine ⟨_, rfl, _, _, rfl, rfl, ⟨by decide, by decide⟩, _, _, rfl, rfl, (by show (0 : Int) < 9; decide), rfl, _, rfl, ?_⟩
    refine bOf (fun h1 => ?_) (fun h1 => ?_)
    · exact k 60 (by decide) (by decide)
    · have h0 : 0 ≤ a % 20 := Int.emod_nonneg _ (by decide)
      have h1 : a % 20 < 20 := Int.emod_lt_of_pos _ (by decide)
      exact ⟨_, rfl, _, _, rfl, rfl, (by show (0 : Int) < 20; decide), k _ h0 (by omega)⟩
theorem sc_law_row : FnScope ["script", "start", "size", "way", "found", "k", "mixed", "last"] ["script", "start", "size", "way"] (defScope s__law_row) := ⟨rfl, rfl, rfl, by decide +kernel, rfl, by decide +kernel, by decide +kernel⟩
theorem ok_law_row {f : Addr} {fd : FuncData} (F : Fun K "_law_row" "_law_row" s__law_row f fd) (T : Blt mg) (T2 : BltB mg) (D1 : Def P w K mg base "_law_pick" 2 ["script", "k"] (spPick K)) (D2 : Def P w K mg base "_law_mix" 1 ["cell", "k"] spMix) : FnOk P w K mg base CX0 3 f fd ["script", "start", "size", "way"] (spRow K) := by
  refine F.ok sc_law_row (fun vs H Q E h => ?_) (fun cdv A outer s H vs Q E hr h => ?_)
  · obtain ⟨a, ns, st, n, way, rfl, _⟩ := h
    rfl
  · obtain ⟨a, ns, st, n, way, rfl, hS, hst, hn0, hn, k⟩ := h
    refine ⟨_, pss_cons (ps_set (i := 4) sc_law_row.nd rfl (Or.inl rfl) (pe_lst pa_nil))
      (pss_cons (ps_for PassesOwn.never rfl (pi_range1 rfl T.range (pa_cons (pv 2) pa_nil)) (pg_name (i := 5) sc_law_row.nd rfl (Or.inl rfl))
        (pss_cons (ps_set (i := 6) sc_law_row.nd rfl (Or.inl rfl) (pe_def D2 (hr.mono (by decide)) (pa_cons (pe_def D1 hr (pa_cons (pv 0) (pa_cons (pe_op op_add (pv 1) (pv 5)) pa_nil))) (pa_cons (pv 5) pa_nil))))
        (pss_one (ps_if (pt_cmpR op_eq (pv 3) pe_int (nomark _))
          (pss_one (ps_expr (pe_bm PySem.F.plainAttrs_list PySem.F.slot_list_append PySem.F.type_list_append mt_append (pv 4) (pa_cons (pe_op op_mod (pe_op op_fdiv (pv 6) pe_int) pe_int) pa_nil))))
          (pss_one (ps_if (pt_cmpR op_eq (pv 3) pe_int (nomark _))
            (pss_one (ps_expr (pe_bm PySem.F.plainAttrs_list PySem.F.slot_list_append PySem.F.type_list_append mt_append (pv 4) (pa_cons (pe_op op_mod (pe_op op_fdiv (pv 6) pe_int) pe_int) pa_nil))))
            (pss_cons (ps_set (i := 7) sc_law_row.nd rfl (Or.inl rfl) (pe_ix ix_list (pe_op op_cat (pe_lst (pa_cons pe_int pa_nil)) (pv 4)) (pe_un un_neg pe_int) (fun _ _ => rfl)))
            (pss_one (ps_expr (pe_bm PySem.F.plainAttrs_list PySem.F.slot_list_append PySem.F.type_list_append mt_append (pv 4)
              (pa_cons (pe_callB (call_min2 rfl) (by rfl) T2.min PyProof.Rows.boot_min (pa_cons pe_int (pa_cons (pe_callB (call_max2 rfl) (by rfl) T2.max PyProof.Rows.boot_max (pa_cons pe_int (pa_cons
                (pe_op op_add (pv 7) (pe_ix ix_list (pe_lst (pa_cons pe_int (pa_cons pe_int (pa_cons pe_int (pa_cons (pe_un un_neg pe_int) (pa_cons pe_int (pa_cons (pe_un un_neg pe_int) pa_nil))))))) (pe_op op_mod (pe_op op_fdiv (pv 6) pe_int) pe_int) (fun _ _ => rfl))) pa_nil))) pa_nil))) pa_nil)))))))))))
      (pss_one (ps_ret (pv 4)))), ?_⟩
    refine ⟨Nat.zero_le _, fun fo hfo => ?_⟩
    refine ⟨_, rfl, n, rfl, by omega, by omega, ?_⟩
    refine for_range (n := n.toNat) (fun i σ H2 => ∃ (row : List Int) (v6 v7 v5 : Option V), σ = [some (.ref a), some (.int st), some (.int n), some (.int way), some (.ref fo), v5, v6, v7] ∧ Same H H2 ∧ H2 fo = some (.lst (vI row)) ∧ RowOk row ∧ row.length = i)
      ⟨[], _, _, _, rfl, Same.upd0 hfo, upd_same, RowOk.nil, rfl⟩ ?_ ?_
    · rintro i σ H2 hi ⟨row, v6, v7, v5, rfl, s2, hF, hR, hl⟩
      refine ⟨_, rfl, _, rfl, _, rfl, _, _, rfl, rfl, a, ns, st + (0 + (i : Int)), rfl, s2.seq hS, by omega, fun c => ?_⟩
      refine ⟨_, rfl, c, _, rfl, fun m => ?_⟩
      dsimp only [gName]
      have hl60 : row.length < 60 := by omega
      have hm10 : 0 ≤ m / 7 % 10 ∧ m / 7 % 10 < 10 := ⟨Int.emod_nonneg _ (by decide), Int.emod_lt_of_pos _ (by decide)⟩
      have hm3 : 0 ≤ m / 7 % 3 ∧ m / 7 % 3 < 3 := ⟨Int.emod_nonneg _ (by decide), Int.emod_lt_of_pos _ (by decide)⟩
      have hm6 : 0 ≤ m / 7 % 6 ∧ m / 7 % 6 < 6 := ⟨Int.emod_nonneg _ (by decide), Int.emod_lt_of_pos _ (by decide)⟩
      refine ⟨_, rfl, rfl, _, rfl, ?_⟩
      refine bOf (fun _ => ?_) (fun _ => ?_)
      · refine ⟨_, rfl, .inl ⟨rfl, _, SqL.of hF⟩, _, rfl, _, _, rfl, rfl, ⟨by decide, by decide⟩, _, _, rfl, rfl, (by show (0 : Int) < 10; decide), fo, _, _, rfl, rfl, hF, small1000 (by rw [ints_len]; omega), ?_⟩
        exact ⟨row ++ [m / 7 % 10], _, _, _, rfl, Same.updT s2 hfo, by rw [upd_same, ints_snoc], rowOk_snoc hR hl60 hm10.1 (by omega), by simp [hl]⟩
      refine ⟨_, rfl, rfl, _, rfl, ?_⟩
      refine bOf (fun _ => ?_) (fun _ => ?_)
      · refine ⟨_, rfl, .inl ⟨rfl, _, SqL.of hF⟩, _, rfl, _, _, rfl, rfl, ⟨by decide, by decide⟩, _, _, rfl, rfl, (by show (0 : Int) < 3; decide), fo, _, _, rfl, rfl, hF, small1000 (by rw [ints_len]; omega), ?_⟩
        exact ⟨row ++ [m / 7 % 3], _, _, _, rfl, Same.updT s2 hfo, by rw [upd_same, ints_snoc], rowOk_snoc hR hl60 hm3.1 (by omega), by simp [hl]⟩
      -- last = ([0] + found)[-1]
      refine ⟨(by show 1 ≤ sizeLine; decide), fun z hz => ⟨_, rfl, z, fo, _, _, rfl, rfl, upd_same, (by rw [upd_ne (ne_of_none hF hz)]; exact hF), le_line (by simp [hl]; omega), fun y hy => ?_⟩⟩
      have hF4 : upd (upd H2 z (.lst [V.int 0])) y (.lst ([V.int 0] ++ vI row)) fo = some (.lst (vI row)) := by
        have h1 : upd H2 z (.lst [V.int 0]) fo = some (.lst (vI row)) := by rw [upd_ne (ne_of_none hF hz)]; exact hF
        rw [upd_ne (ne_of_none h1 hy)]; exact h1
      have s4 : Same H (upd (upd H2 z (.lst [V.int 0])) y (.lst ([V.int 0] ++ vI row))) := Same.upd (Same.upd s2 hz) hy
      have e0 : ([V.int 0] ++ vI row : List V) = vI (0 :: row) := rfl
      refine ⟨_, rfl, y, _, _, _, rfl, rfl, SqL.of upd_same, (by rw [e0]; exact ints_last (by simp)), ?_⟩
      generalize (0 :: row).getLastD 0 = la
      generalize upd (upd H2 z (.lst [V.int 0])) y (.lst ([V.int 0] ++ vI row)) = H4 at hF4 s4 ⊢
      dsimp only [gName]
      obtain ⟨d, hd⟩ := six_at hm6.1 hm6.2
      refine ⟨_, rfl, .inl ⟨rfl, _, SqL.of hF4⟩, _, rfl, _, rfl, _, rfl, (by show 6 ≤ sizeLine; decide), fun x hx => ?_⟩
      refine ⟨_, rfl, _, _, rfl, rfl, ⟨by decide, by decide⟩, _, _, rfl, rfl, (by show (0 : Int) < 6; decide), x, _, _, _, rfl, rfl, SqL.of upd_same, hd, _, _, rfl, rfl, ?_⟩
      have hF5 : upd H4 x (.lst [V.int 0, V.int 0, V.int 1, V.int (-1), V.int 2, V.int (-2)]) fo = some (.lst (vI row)) := by rw [upd_ne (ne_of_none hF4 hx)]; exact hF4
      have s5 : Same H (upd H4 x (.lst [V.int 0, V.int 0, V.int 1, V.int (-1), V.int 2, V.int (-2)])) := Same.upd s4 hx
      refine ⟨_, _, rfl, _, _, rfl, fo, _, _, rfl, rfl, hF5, small1000 (by rw [ints_len]; omega), ?_⟩
      refine ⟨row ++ [_], _, _, _, rfl, Same.updT s5 hfo, by rw [upd_same, ints_snoc], rowOk_snoc hR hl60 ?_ ?_, by simp [hl]⟩
      · split <;> split <;> omega
      · split <;> split <;> omega
    · rintro σ H2 ⟨row, v6, v7, v5, rfl, s2, hF, hR, hl⟩
      exact ⟨_, rfl, k row fo H2 hR (by omega) s2 hfo hF⟩
theorem sc_whole : FnScope ["x"] ["x"] (defScope s__law_whole) := ⟨rfl, rfl, rfl, by decide +kernel, rfl, by decide +kernel, by decide +kernel⟩
theorem ok_whole {f : Addr} {fd : FuncData} (F : Fun K "_law_whole" "_law_whole" s__law_whole f fd) (T : Blt mg) : FnOk P w K mg base CX0 1 f fd ["x"] spWhole := by
  refine F.ok sc_whole (fun vs H Q E h => ?_) (fun cdv A outer s H vs Q E hr h => ?_)
  · obtain ⟨n, rfl, _⟩ := h
    rfl
  · obtain ⟨n, rfl, k⟩ := h
    refine ⟨_, pss_one (ps_ret (pe_and (pe_callB call_isinst (by rfl) T.isinstance PyProof.Rows.boot_isinstance (pa_cons (pv 0) (pa_cons (pe_bltn (v := .ty "int") (by rfl) T.int PyProof.Rows.boot_int rfl) pa_nil)))
      (pe_one (pe_not (pe_callB call_isinst (by rfl) T.isinstance PyProof.Rows.boot_isinstance (pa_cons (pv 0) (pa_cons (pe_bltn (v := .ty "bool") (by rfl) T.bool PyProof.Rows.boot_bool rfl) pa_nil))))))), ?_⟩
    refine ⟨_, rfl, _, _, _, true, rfl, TyOf.int n, rfl, _, rfl, iteT ?_⟩
    exact ⟨_, rfl, _, _, _, false, rfl, TyOf.int n, kit_int_bool K, _, rfl, k⟩
theorem sc_law_order : FnScope ["row", "places", "level", "found", "at", "end"] ["row", "places", "level"] (defScope s__law_order) := ⟨rfl, rfl, rfl, by decide +kernel, rfl, by decide +kernel, by decide +kernel⟩
theorem ok_law_order {f : Addr} {fd : FuncData} (F : Fun K "_law_order" "_law_order" s__law_order f fd) (T : Blt mg) (hm : mg "_law_order" = some (.ref f)) (hk : PySem.W.keepIn K (.ref f) = true) (hb : Binds K fd ["row", "places", "level"] []) :
    ∀ n, FnOk P w K mg base CX0 n f fd ["row", "places", "level"] (spOrdN K n)
  | 0 => ⟨fun _ _ _ _ h => h.elim, fun _ _ _ _ _ _ _ _ _ _ _ _ _ h => h.elim⟩
  | n + 1 => by
    have D : Def P w K mg base "_law_order" n ["row", "places", "level"] (spOrdN K n) := ⟨f, fd, ok_law_order F T hm hk hb n, hm, hk, hb⟩
    refine F.ok sc_law_order (fun vs H Q E h => ?_) (fun cdv A outer s H vs Q E hr h => ?_)
    · obtain ⟨r, q, row, pl, l, rfl, _⟩ := h
      rfl
    · obtain ⟨r, q, row, pl, l, rfl, hR, hq, h9, hpl, hlen, hln, k⟩ := h
      refine ⟨_, pss_cons (ps_set (i := 3) sc_law_order.nd rfl (Or.inl rfl) (pe_lst pa_nil))
        (pss_cons (ps_set (i := 4) sc_law_order.nd rfl (Or.inl rfl) pe_int)
        (pss_cons (ps_while PassesOwn.never (pt_cmpR op_lt (pv 4) (pe_callB call_len_seq (by rfl) T.len PySem.boot_len (pa_cons (pv 1) pa_nil)) (nomark _))
          (pss_cons (ps_set (i := 5) sc_law_order.nd rfl (Or.inl rfl) (pv 4))
          (pss_cons (ps_while PassesOwn.never (pw_and (pt_cmpR op_lt (pv 5) (pe_callB call_len_seq (by rfl) T.len PySem.boot_len (pa_cons (pv 1) pa_nil)) (nomark _)) (pw_and1 (pt_cmpR op_gt (pe_ix ix_list (pv 0) (pe_ix ix_list (pv 1) (pv 5) (fun _ _ => rfl)) (fun _ _ => rfl)) (pv 2) (nomark _)))).pt
            (pss_one (ps_set (i := 5) sc_law_order.nd rfl (Or.inl rfl) (pe_op op_add (pv 5) pe_int))))
          (pss_one (ps_if (pt_cmpR op_gt (pv 5) (pv 4) (nomark _))
            (pss_cons (ps_set (i := 3) sc_law_order.nd rfl (Or.inl rfl) (pe_op op_cat (pv 3) (pe_list_rev (pe_def D hr (pa_cons (pv 0) (pa_cons (pe_slice sl_list (pv 1) (po_some (pv 4)) (po_some (pv 5))) (pa_cons (pe_op op_add (pv 2) pe_int) pa_nil)))) (by rfl) T.list (by rfl) T.reversed rfl)))
            (pss_one (ps_set (i := 4) sc_law_order.nd rfl (Or.inl rfl) (pv 5))))
            (pss_cons (ps_expr (pe_bm PySem.F.plainAttrs_list PySem.F.slot_list_append PySem.F.type_list_append mt_append (pv 3) (pa_cons (pe_ix ix_list (pv 1) (pv 4) (fun _ _ => rfl)) pa_nil)))
            (pss_one (ps_set (i := 4) sc_law_order.nd rfl (Or.inl rfl) (pe_op op_add (pv 4) pe_int)))))))))
        (pss_one (ps_ret (pv 3))))), ?_⟩
      refine ⟨Nat.zero_le _, fun fo hfo => ?_⟩
      dsimp only [gName]
      -- the outer walk
      refine ⟨fun m σ H2 => ∃ (i : Nat) (fo : Addr) (done : List Nat) (v5 : Option V), σ = [some (.ref r), some (.ref q), some (.int l), some (.ref fo), some (.int (i : Int)), v5] ∧ m + i = pl.length ∧ Same H H2 ∧ H fo = none ∧
        H2 fo = some (.lst (vN done)) ∧ TM.ord (lvl row) n l pl = done ++ TM.ord (lvl row) n l (pl.drop i), ⟨pl.length, 0, fo, [], _, rfl, rfl, Same.upd0 hfo, hfo, upd_same, rfl⟩, ?_⟩
      rintro m σ H2 ⟨i, fo, done, v5, rfl, hmi, s2, nfo, hF, hord⟩
      have hdl : done.length ≤ 60 := by
        have e1 := congrArg List.length hord
        rw [(TM.ord_perm n l pl).length_eq, List.length_append] at e1
        omega
      refine ⟨_, rfl, _, rfl, q, _, rfl, .inl (s2.seq hq), _, _, rfl, rfl, _, rfl, ?_⟩
      rw [vN_len]
      refine bOf (fun h1 => ?_) (fun h1 => ?_)
      · have h1 : (i : Int) < (pl.length : Int) := of_decide_eq_true h1
        refine ⟨_, fun σ' H' h => h, ?_⟩
        refine ⟨_, rfl, ?_⟩
        dsimp only [gName]
        refine seq_mid (fun σ H3 => ∃ j : Nat, σ = [some (.ref r), some (.ref q), some (.int l), some (.ref fo), some (.int (i : Int)), some (.int (j : Int))] ∧ H3 = H2 ∧ i ≤ j ∧ j ≤ pl.length ∧ (∀ t x, i ≤ t → t < j → pl[t]? = some x → l < lvl row x) ∧ ∀ x, pl[j]? = some x → lvl row x ≤ l) ?_ ?_
        · intro D' _ _ _ kk
          refine ⟨fun m σ H3 => ∃ j : Nat, σ = [some (.ref r), some (.ref q), some (.int l), some (.ref fo), some (.int (i : Int)), some (.int (j : Int))] ∧ H3 = H2 ∧ m + j = pl.length ∧ i ≤ j ∧ (∀ t x, i ≤ t → t < j → pl[t]? = some x → l < lvl row x), ⟨pl.length - i, i, rfl, rfl, by omega, Nat.le_refl _, fun t x h1 h2 => by omega⟩, ?_⟩
          rintro m2 σ H3 ⟨j, rfl, rfl, hmj, hij, hall⟩
          refine ⟨_, rfl, _, rfl, q, _, rfl, .inl (s2.seq hq), _, _, rfl, rfl, _, rfl, ?_⟩
          rw [vN_len]
          refine bOf (fun h2 => ?_) (fun h2 => ?_)
          · have h2 : (j : Int) < (pl.length : Int) := of_decide_eq_true h2
            have hj : j < pl.length := by omega
            have hx : pl[j]? = some pl[j] := List.getElem?_eq_getElem hj
            refine ⟨_, rfl, _, rfl, _, rfl, q, _, _, _, rfl, rfl, s2.seq hq, vN_at hj, r, _, _, _, rfl, rfl, s2.seq hR, lvl_at (hpl _ (List.getElem_mem hj)), _, rfl, _, _, rfl, rfl, _, rfl, ?_⟩
            refine bOf (fun h3 => ?_) (fun h3 => ?_)
            · have h3 : l < lvl row pl[j] := of_decide_eq_true h3
              refine ⟨_, fun σ' H' h => h, _, rfl, _, _, rfl, rfl, ?_⟩
              refine ⟨m2 - 1, by omega, j + 1, by simp [gName], rfl, by omega, by omega, fun t x a1 a2 a3 => ?_⟩
              by_cases e : t = j
              · rw [e, hx] at a3; cases a3; exact h3
              · exact hall t x a1 (by omega) a3
            · have h3 : ¬ l < lvl row pl[j] := of_decide_eq_false h3
              exact kk _ _ ⟨j, rfl, rfl, hij, by omega, hall, fun x a => by rw [hx] at a; cases a; omega⟩
          · have h2 : ¬ (j : Int) < (pl.length : Int) := of_decide_eq_false h2
            exact kk _ _ ⟨j, rfl, rfl, hij, by omega, hall, fun x a => by rw [List.getElem?_eq_none (by omega)] at a; cases a⟩
        · rintro σ H3 ⟨j, rfl, rfl, hij, hjl, hall, hend⟩
          refine ⟨_, rfl, _, rfl, _, _, rfl, rfl, _, rfl, ?_⟩
          refine bOf (fun h2 => ?_) (fun h2 => ?_)
          · have h2 : (i : Int) < (j : Int) := of_decide_eq_true h2
            have hil : i < pl.length := by omega
            have hx := hall i pl[i] (Nat.le_refl _) (by omega) (List.getElem?_eq_getElem hil)
            have h9' := h9 pl[i]
            obtain ⟨n, rfl⟩ : ∃ n', n = n' + 1 := ⟨n - 1, by omega⟩
            have eo := ord_run (lv := lvl row) (n := n) (by omega) hall hend
            have hrl : ((pl.drop i).take (j - i)).length ≤ pl.length := by rw [List.length_take, List.length_drop]; omega
            have ecut : cutV (vN pl) (some (i : Int)) (some (j : Int)) = vN ((pl.drop i).take (j - i)) := by
              rw [vN_cut, Nat.min_eq_left hjl, Nat.min_eq_left (show i ≤ pl.length by omega)]
            refine ⟨_, rfl, _, rfl, _, rfl, _, rfl, _, rfl, _, rfl, _, rfl, q, _, rfl, s2.seq hq, fun cu hcu => ?_⟩
            rw [ecut]
            have s3 := Same.upd (o := .lst (vN ((pl.drop i).take (j - i)))) s2 hcu
            refine ⟨_, rfl, _, _, rfl, rfl, ?_⟩
            refine ⟨r, cu, row, (pl.drop i).take (j - i), l + 1, rfl, s3.seq hR, SqL.of upd_same, h9, fun p hp => hpl p (List.mem_of_mem_drop (List.mem_of_mem_take hp)), by omega, by omega, fun p H4 s4 np hp => ?_⟩
            refine ⟨p, _, rfl, SqL.of hp, fun rv hrv => ?_⟩
            rw [vN_rev]
            have n1 : rv ≠ p := fun e => by rw [e, hp] at hrv; cases hrv
            have hF4 : H4 fo = some (.lst (vN done)) := s4 _ _ (by rw [upd_ne (ne_of_none hF hcu)]; exact hF)
            have hF5 : upd H4 rv (.lst (vN (TM.ord (lvl row) n (l + 1) ((pl.drop i).take (j - i))).reverse)) fo = some (.lst (vN done)) := by rw [upd_ne (ne_of_none hF4 hrv)]; exact hF4
            have s5 := Same.upd (o := .lst (vN (TM.ord (lvl row) n (l + 1) ((pl.drop i).take (j - i))).reverse)) (Same.trans s3 s4) hrv
            have eol := (TM.ord_perm (lv := lvl row) n (l + 1) ((pl.drop i).take (j - i))).length_eq
            refine ⟨fo, rv, _, _, rfl, rfl, hF5, upd_same, le_line (by rw [vN_len, vN_len, List.length_reverse, eol]; omega), fun nf hnf => ?_⟩
            refine ⟨_, rfl, ?_⟩
            refine ⟨pl.length - j, by omega, j, nf, done ++ (TM.ord (lvl row) n (l + 1) ((pl.drop i).take (j - i))).reverse, some (.int (j : Int)), by simp [gName], by omega, Same.upd s5 hnf, s5.free hnf, by rw [upd_same, vN_app], ?_⟩
            rw [hord, eo, List.append_assoc]
          · have h2 : ¬ (i : Int) < (j : Int) := of_decide_eq_false h2
            obtain rfl : i = j := by omega
            have hil : i < pl.length := by omega
            have hx := hend pl[i] (List.getElem?_eq_getElem hil)
            refine ⟨_, rfl, .inl ⟨rfl, _, SqL.of hF⟩, _, rfl, _, rfl, q, _, _, _, rfl, rfl, s2.seq hq, vN_at hil, fo, _, _, rfl, rfl, hF, small1000 (by rw [vN_len]; omega), ?_⟩
            refine ⟨_, rfl, _, _, rfl, rfl, ?_⟩
            refine ⟨m - 1, by omega, i + 1, fo, done ++ [pl[i]], some (.int (i : Int)), by simp [gName], by omega, Same.updT s2 nfo, nfo, by rw [upd_same, vN_snoc], ?_⟩
            rw [hord, List.drop_eq_getElem_cons hil, ord_head hx]
            simp
      · have h1 : ¬ (i : Int) < (pl.length : Int) := of_decide_eq_false h1
        refine ⟨_, rfl, k fo H2 s2 nfo ?_⟩
        rw [hord, List.drop_eq_nil_of_le (by omega), TM.ord_nil, List.append_nil]
        exact hF
theorem sc_law_face : FnScope ["found", "due"] ["found", "due"] (defScope s__law_face) := ⟨rfl, rfl, rfl, by decide +kernel, rfl, by decide +kernel, by decide +kernel⟩
theorem ok_law_face {f : Addr} {fd : FuncData} (F : Fun K "_law_face" "_law_face" s__law_face f fd) (D1 : Def P w K mg base "_law_whole" 1 ["x"] spWhole) : FnOk P w K mg base CX0 2 f fd ["found", "due"] spFace := by
  refine F.ok sc_law_face (fun vs H Q E h => ?_) (fun cdv A outer s H vs Q E hr h => ?_)
  · obtain ⟨x, rfl, _⟩ := h
    rfl
  · obtain ⟨x, rfl, k⟩ := h
    refine ⟨_, pss_cons (ps_if (pt_cmpR op_isN (pv 1) pe_non (nomark _)) (pss_one (ps_ret (pe_cmpR op_isN (pv 0) pe_non (nomark _)))) pss_nil)
      (pss_one (ps_ret (pe_and (pe_def D1 hr (pa_cons (pv 0) pa_nil)) (pe_one (pe_cmpR op_eq (pv 0) (pv 1) (nomark _)))))), ?_⟩
    cases x with
    | none => exact ⟨_, rfl, rfl, _, rfl, iteT ⟨_, rfl, rfl, k⟩⟩
    | some i =>
      refine ⟨_, rfl, rfl, _, rfl, iteF ⟨_, rfl, i, rfl, _, rfl, iteT ⟨_, rfl, _, rfl, rfl, ?_⟩⟩⟩
      have e : decide (faceV (some i) = faceV (some i)) = true := decide_eq_true rfl
      rw [e]
      exact k
theorem sc_law_same : FnScope ["found", "due", "one", "own"] ["found", "due"] (defScope s__law_same) := ⟨rfl, rfl, rfl, by decide +kernel, rfl, by decide +kernel, by decide +kernel⟩
theorem ok_law_same {f : Addr} {fd : FuncData} (F : Fun K "_law_same" "_law_same" s__law_same f fd) (T : Blt mg) (T2 : BltB mg) (D1 : Def P w K mg base "_law_face" 2 ["found", "due"] spFace) : FnOk P w K mg base CX0 3 f fd ["found", "due"] spSameC := by
  refine F.ok sc_law_same (fun vs H Q E h => ?_) (fun cdv A outer s H vs Q E hr h => ?_)
  · obtain ⟨p, q, as, bs, prs, rfl, _⟩ := h
    rfl
  · obtain ⟨p, q, as, bs, prs, rfl, hp, hq, hA, hB, hl, k⟩ := h
    refine ⟨_, pss_cons (ps_if (pw_or (pt_not (pt_val (pe_callB call_isinst (by rfl) T.isinstance PyProof.Rows.boot_isinstance (pa_cons (pv 0) (pa_cons (pe_bltn (v := .ty "list") (by rfl) T.list PyProof.Rows.boot_list rfl) pa_nil)))))
        (pw_or1 (pt_cmpR op_ne (pe_callB call_len_seq (by rfl) T.len PySem.boot_len (pa_cons (pv 0) pa_nil)) (pe_callB call_len_seq (by rfl) T.len PySem.boot_len (pa_cons (pv 1) pa_nil)) (nomark _)))).pt (pss_one (ps_ret pe_bl)) pss_nil)
      (pss_cons (ps_for PassesOwn.never rfl (pi_zip2 (by rfl) T.zip (pa_cons (pv 0) (pa_cons (pv 1) pa_nil))) (pg_tup rfl (pgs_cons (pg_name (i := 2) sc_law_same.nd rfl (Or.inl rfl)) (pgs_cons (pg_name (i := 3) sc_law_same.nd rfl (Or.inl rfl)) pgs_nil)))
        (pss_cons (ps_if (pw_or (pt_not (pt_val (pe_callB call_isinst (by rfl) T.isinstance PyProof.Rows.boot_isinstance (pa_cons (pv 2) (pa_cons (pe_bltn (v := .ty "tuple") (by rfl) T2.tuple PyProof.Rows.boot_tuple rfl) pa_nil)))))
            (pw_or1 (pt_cmpR op_ne (pe_callB call_len_seq (by rfl) T.len PySem.boot_len (pa_cons (pv 2) pa_nil)) pe_int (nomark _)))).pt (pss_one (ps_ret pe_bl)) pss_nil)
        (pss_one (ps_if (pw_or (pt_not (pt_val (pe_def D1 hr (pa_cons (pe_ix ix_tup (pv 2) pe_int (fun _ _ => rfl)) (pa_cons (pe_ix ix_tup (pv 3) pe_int (fun _ _ => rfl)) pa_nil)))))
            (pw_or1 (pt_not (pt_val (pe_def D1 hr (pa_cons (pe_ix ix_tup (pv 2) pe_int (fun _ _ => rfl)) (pa_cons (pe_ix ix_tup (pv 3) pe_int (fun _ _ => rfl)) pa_nil))))))).pt (pss_one (ps_ret pe_bl)) pss_nil))))
      (pss_one (ps_ret pe_bl))), ?_⟩
    have la := hA.len
    have lb := hB.len
    refine ⟨_, rfl, _, _, _, true, rfl, TyOf.lst hp, rfl, _, rfl, ?_⟩
    refine iteF ⟨_, rfl, p, _, rfl, .inl (SqL.of hp), _, rfl, q, _, rfl, .inl (SqL.of hq), rfl, _, rfl, ?_⟩
    refine iteNS (by rw [List.length_map, List.length_map, la, lb]) ?_
    refine ⟨_, rfl, _, rfl, _, _, _, _, rfl, .lst (SqL.of hp), .lst (SqL.of hq), ?_⟩
    refine for_it prs.length (fun i σ H2 => (∃ v2 v3, σ = [some (.ref p), some (.ref q), v2, v3]) ∧ Same H H2) ⟨⟨_, _, rfl⟩, Same.refl H⟩ ?_ ?_ ?_ ?_
    · rintro i σ H2 hi ⟨_, s2⟩
      exact ⟨⟨_, V.ref (as[i]'(by omega)), SqL.of (s2 _ _ hp), by rw [List.getElem?_map, List.getElem?_eq_getElem (by omega)]; rfl⟩, ⟨_, V.ref (bs[i]'(by omega)), SqL.of (s2 _ _ hq), by rw [List.getElem?_map, List.getElem?_eq_getElem (by omega)]; rfl⟩⟩
    · rintro σ H2 ⟨_, s2⟩
      exact ⟨_, SqL.of (s2 _ _ hp), by rw [List.length_map, la]⟩
    · rintro i σ H2 x H3 hi ⟨⟨v2, v3, rfl⟩, s2⟩ ⟨tp, x1, x2, rfl, ntp, rfl, hx1, hx2⟩
      obtain ⟨a1, ha1, rfl⟩ := refs_get (hx1 _ (SqL.of (s2 _ _ hp)))
      obtain ⟨a2, ha2, rfl⟩ := refs_get (hx2 _ (SqL.of (s2 _ _ hq)))
      have s3 := Same.upd (o := .tup [.ref a1, .ref a2]) s2 ntp
      obtain ⟨x, hx, t1⟩ := (hA.same s3).at ha1
      obtain ⟨y, hy, t2⟩ := (hB.same s3).at ha2
      rw [hx] at hy
      cases hy
      refine ⟨tp, _, rfl, SqT.of upd_same, rfl, _, _, rfl, _, _, rfl, rfl, ?_⟩
      generalize upd H2 tp (.tup [.ref a1, .ref a2]) = H4 at s3 t1 t2 ⊢
      refine ⟨_, rfl, _, _, _, true, rfl, TyOf.tup t1, rfl, _, rfl, ?_⟩
      refine iteF ⟨_, rfl, a1, _, rfl, .inr (SqT.of t1), rfl, _, rfl, ?_⟩
      refine iteNS rfl ?_
      refine ⟨_, rfl, a1, _, _, _, rfl, rfl, SqT.of t1, rfl, _, rfl, a2, _, _, _, rfl, rfl, SqT.of t2, rfl, x.1, rfl, _, rfl, ?_⟩
      refine iteF ⟨_, rfl, a1, _, _, _, rfl, rfl, SqT.of t1, rfl, _, rfl, a2, _, _, _, rfl, rfl, SqT.of t2, rfl, x.2, rfl, _, rfl, ?_⟩
      exact iteF ⟨⟨_, _, rfl⟩, s3⟩
    · rintro σ H2 ⟨_, s2⟩
      exact k H2 s2
def scx_law : Scope := match s_law with
  | .FunctionDef _ _ (_ :: _ :: _ :: .Assign _ (.ListComp _ _ sc _) _ :: _) _ _ _ _ _ _ _ => sc
  | _ => { kind := .function, names := [], isGenerator := false, isCoroutine := false }
theorem sc_law : FnScope ["script", "cell", "row", "seen", "edges", "due", "place", "faces", "found"] ["script"] (defScope s_law) := ⟨rfl, rfl, rfl, by decide +kernel, rfl, by decide +kernel, by decide +kernel⟩
theorem scc_law : CompSc (defScope s_law) ["script", "cell", "row", "seen", "edges", "due", "place", "faces", "found"] ["place"] ["seen"] [3] scx_law :=
  ⟨by decide +kernel, by decide +kernel, by decide +kernel, by decide +kernel, by decide +kernel, by decide +kernel, by decide +kernel⟩
theorem ndc_law : (["place", "seen"] : List Str).Nodup := by decide +kernel
theorem ok_law {f : Addr} {fd : FuncData} (F : Fun K "law" "law" s_law f fd) (T : Blt mg) (D1 : Def P w K mg base "_law_cell_at" 1 ["script", "k"] (spCell K)) (D2 : Def P w K mg base "_law_row" 3 ["script", "start", "size", "way"] (spRow K))
    (D3 : Def P w K mg base "_law_size" 1 ["cell"] spSize) (D4 : Def P w K mg base "_law_order" 10 ["row", "places", "level"] (spOrdN K 10)) (D5 : Def P w K mg base "carets" 20 ["levels"] (spCarets K)) (D6 : Def P w K mg base "_law_same" 3 ["found", "due"] spSameC) : FnOk P w K mg base CX0 30 f fd ["script"] (spLaw K) := by
  refine F.ok sc_law (fun vs H Q E h => ?_) (fun cdv A outer s H vs Q E hr h => ?_)
  · obtain ⟨a, ns, rfl, _⟩ := h
    rfl
  · obtain ⟨a, ns, rfl, hS, hlen, k⟩ := h
    have hu : (A.deeper (PyProof.Rows.envOfC "law" (defScope s_law) s.heap.objs.size f cdv)).units < cLine := hr.units0
    have hr1 : Room 1 _ := hr.mono (by decide)
    have hr3 : Room 3 _ := hr.mono (by decide)
    have hr10 : Room 10 _ := hr.mono (by decide)
    have hr20 : Room 20 _ := hr.mono (by decide)
    refine ⟨_, pss_cons (ps_set (i := 1) sc_law.nd rfl (Or.inl rfl) (pe_def D1 hr1 (pa_cons (pv 0) (pa_cons pe_int pa_nil))))
      (pss_cons (ps_set (i := 2) sc_law.nd rfl (Or.inl rfl) (pe_def D2 hr3 (pa_cons (pv 0) (pa_cons pe_int (pa_cons (pe_def D3 hr1 (pa_cons (pv 1) pa_nil)) (pa_cons (pe_op op_mod (pe_def D1 hr1 (pa_cons (pv 0) (pa_cons pe_int pa_nil))) pe_int) pa_nil))))))
      (pss_cons (ps_set (i := 3) sc_law.nd rfl (Or.inr rfl) (pe_def D4 hr10 (pa_cons (pv 2) (pa_cons (pe_callTy (call_list_rng rfl) (by rfl) T.list PyProof.Rows.boot_list (pa_cons (pe_callTy call_range1 (by rfl) T.range PyProof.Rows.boot_range (pa_cons (pe_callB call_len_seq (by rfl) T.len PySem.boot_len (pa_cons (pv 2) pa_nil)) pa_nil)) pa_nil)) (pa_cons pe_int pa_nil)))))
      (pss_cons (ps_comp (i := 4) (te := tTup (tCons (tBM K "list" (rIndex K) (tVar 1) (tCons (tVar 0) tNil)) (tCons (tOp (rI0 fun i j => V.int (i + j)) (tBM K "list" (rIndex K) (tVar 1) (tCons (tVar 0) tNil)) (tC (.int 1))) tNil))) scc_law rfl rfl rfl
        (pi_range1 rfl T.range (pa_cons (pe_callB call_len_seq (by rfl) T.len PySem.boot_len (pa_cons (pv 2) pa_nil)) pa_nil)) (fun _ _ _ _ _ _ => pg_name (i := 0) ndc_law rfl (Or.inl rfl))
        (fun _ _ _ _ _ _ => pe_tup (pa_cons (pe_bm PySem.F.plainAttrs_list PySem.F.slot_list_index PySem.F.type_list_index mt_index (pv 1) (pa_cons (pv 0) pa_nil)) (pa_cons (pe_op op_add (pe_bm PySem.F.plainAttrs_list PySem.F.slot_list_index PySem.F.type_list_index mt_index (pv 1) (pa_cons (pv 0) pa_nil)) pe_int) pa_nil))) sc_law.nd rfl rfl rfl)
      (pss_cons (ps_set (i := 5) sc_law.nd rfl (Or.inl rfl) (pe_lst pa_nil))
      (pss_cons (ps_for PassesOwn.never rfl (pi_range1 rfl T.range (pa_cons (pe_op op_add (pe_callB call_len_seq (by rfl) T.len PySem.boot_len (pa_cons (pv 2) pa_nil)) pe_int) pa_nil)) (pg_name (i := 6) sc_law.nd rfl (Or.inl rfl))
        (pss_cons (ps_set (i := 7) sc_law.nd rfl (Or.inl rfl) (pe_lst (pa_cons pe_non (pa_cons pe_non pa_nil))))
        (pss_cons (ps_if (pt_cmpR op_gt (pv 6) pe_int (nomark _)) (pss_one (ps_asg (pe_ix ix_tup (pe_ix ix_list (pv 4) (pe_op op_sub (pv 6) pe_int) (fun _ _ => rfl)) (pe_op op_sub pe_int (pe_op op_mod (pe_ix ix_list (pv 2) (pe_op op_sub (pv 6) pe_int) (fun _ _ => rfl)) pe_int)) (fun _ _ => rfl)) (pg_sub (pv 7) pe_int set_list))) pss_nil)
        (pss_cons (ps_if (pt_cmpR op_lt (pv 6) (pe_callB call_len_seq (by rfl) T.len PySem.boot_len (pa_cons (pv 2) pa_nil)) (nomark _)) (pss_one (ps_asg (pe_ix ix_tup (pe_ix ix_list (pv 4) (pv 6) (fun _ _ => rfl)) (pe_op op_mod (pe_ix ix_list (pv 2) (pv 6) (fun _ _ => rfl)) pe_int) (fun _ _ => rfl)) (pg_sub (pv 7) pe_int set_list))) pss_nil)
        (pss_one (ps_expr (pe_bm PySem.F.plainAttrs_list PySem.F.slot_list_append PySem.F.type_list_append mt_append (pv 5) (pa_cons (pe_tup (pa_cons (pe_ix ix_list (pv 7) pe_int (fun _ _ => rfl)) (pa_cons (pe_ix ix_list (pv 7) pe_int (fun _ _ => rfl)) pa_nil))) pa_nil))))))))
      (pss_cons (ps_set (i := 8) sc_law.nd rfl (Or.inl rfl) (pe_def D5 hr20 (pa_cons (pe_callTy call_list_of (by rfl) T.list PyProof.Rows.boot_list (pa_cons (pv 2) pa_nil)) pa_nil)))
      (pss_cons (ps_if (pt_not (pt_val (pe_def D6 hr3 (pa_cons (pv 8) (pa_cons (pv 5) pa_nil))))) (pss_one (ps_ret pe_bl)) pss_nil)
      (pss_cons (ps_for PassesOwn.never rfl (pi_range2 rfl T.range (pa_cons pe_int (pa_cons (pe_callB call_len_seq (by rfl) T.len PySem.boot_len (pa_cons (pv 2) pa_nil)) pa_nil))) (pg_name (i := 6) sc_law.nd rfl (Or.inl rfl))
        (pss_one (ps_if (pw_and (pt_cmpR op_eq (pe_ix ix_list (pv 2) (pe_op op_sub (pv 6) pe_int) (fun _ _ => rfl)) (pe_ix ix_list (pv 2) (pv 6) (fun _ _ => rfl)) (nomark _))
          (pw_and1 (pt_cmpR op_ne (pe_ix ix_tup (pe_ix ix_list (pv 8) (pv 6) (fun _ _ => rfl)) pe_int (fun _ _ => rfl)) (pe_ix ix_tup (pe_ix ix_list (pv 8) (pv 6) (fun _ _ => rfl)) pe_int (fun _ _ => rfl)) (nomark _)))).pt (pss_one (ps_ret pe_bl)) pss_nil)))
      (pss_cons (ps_expr (pe_bm PySem.F.plainAttrs_list PySem.F.slot_list_append PySem.F.type_list_append mt_append (pv 8) (pa_cons (pe_tup (pa_cons pe_non (pa_cons pe_non pa_nil))) pa_nil)))
      (pss_one (ps_ret (pe_def D6 hr3 (pa_cons (pe_def D5 hr20 (pa_cons (pe_callTy call_list_of (by rfl) T.list PyProof.Rows.boot_list (pa_cons (pv 2) pa_nil)) pa_nil)) (pa_cons (pv 5) pa_nil)))))))))))))), ?_⟩
    -- cell, row
    refine ⟨_, rfl, a, ns, 0, rfl, hS, Int.le_refl _, ?_⟩
    refine ⟨_, rfl, _, rfl, _, rfl, fun n n0 n60 => ?_⟩
    refine ⟨_, rfl, a, ns, 1, rfl, hS, by decide, _, _, rfl, rfl, (by show (0 : Int) < 3; decide), ?_⟩
    refine ⟨a, ns, 2, n, _, rfl, hS, by decide, n0, n60, fun row rp H1 hR _ s1 nrp hrp => ?_⟩
    have hR60 := hR.len
    -- seen
    refine ⟨_, rfl, _, rfl, rp, _, rfl, .inl (SqL.of hrp), _, rfl, fun g hg => ?_⟩
    have s2 := Same.upd0 (o := .rng 0 ((vI row).length : Int)) hg
    refine ⟨g, 0, _, row.length, rfl, upd_same, by decide, by rw [ints_len]; omega, by rw [ints_len]; omega, by omega, fun l hl => ?_⟩
    rw [iota_vN]
    have s3 := Same.upd (o := .lst (vN (List.range row.length))) s2 hl
    refine ⟨rp, l, row, List.range row.length, 0, rfl, SqL.of (s3 _ _ hrp), SqL.of upd_same, lvl_le hR, fun p hp => List.mem_range.mp hp, by rw [List.length_range]; exact hR60, rfl, fun dp H2 s4 ndp hdp => ?_⟩
    have hd2 : H2 dp = some (.lst (vI (toI (theOrd row)))) := by rw [hdp, vN_vI]; rfl
    have hr2 := s4 _ _ (s3 _ _ hrp)
    have lo : (toI (theOrd row)).length ≤ 1000 := by rw [toI_len, theOrd_len]; omega
    clear hdp s4 s3 ndp s2 hg hl
    -- edges
    dsimp only [gName]
    refine ⟨_, rfl, rp, _, rfl, .inl (SqL.of hr2), _, rfl, by omega, by rw [ints_len]; omega, ?_⟩
    rw [ints_len, Int.toNat_natCast]
    refine comp_range (n := row.length) (fun i ys H3 => Same H2 H3 ∧ ∃ es : List Addr, ys = es.map V.ref ∧ TupsAt H3 es (edgesP row i)) (le_line (by omega)) ⟨Same.refl _, [], rfl, .nil⟩ (fun i ys H3 ⟨_, es, e, ht⟩ => by rw [e, List.length_map, ht.len]; simp [edgesP]) ?_ ?_
    · rintro i ys H3 K' hi ⟨s3, es, rfl, ht⟩ kk
      have d3 := s3 _ _ hd2
      have ei : (0 : Int) + (i : Int) = (i : Int) := by omega
      have hm : (i : Int) ∈ toI (theOrd row) := List.mem_map.mpr ⟨i, theOrd_mem.mpr hi, rfl⟩
      rw [ei]
      refine ⟨_, rfl, .inl ⟨rfl, _, SqL.of d3⟩, _, rfl, dp, _, _, rfl, rfl, SqL.of d3, hm, lo, ?_⟩
      refine ⟨_, rfl, .inl ⟨rfl, _, SqL.of d3⟩, _, rfl, dp, _, _, rfl, rfl, SqL.of d3, hm, lo, _, _, rfl, rfl, (by show 2 ≤ sizeLine; decide), fun t ht2 => ?_⟩
      rw [idxOf_toI]
      refine kk _ _ ⟨Same.upd s3 ht2, es ++ [t], by simp, ?_⟩
      have e : edgesP row (i + 1) = edgesP row i ++ [edgeP row i] := by unfold edgesP; rw [List.range_succ, List.map_append]; rfl
      rw [e]
      exact (ht.same (Same.upd0 ht2)).snoc upd_same
    rintro ys H3 ⟨s3, es, rfl, ht⟩ ep hep
    have e4 : upd H3 ep (.lst (es.map V.ref)) ep = some (.lst (es.map V.ref)) := upd_same
    have t4 := ht.same (Same.upd0 (o := .lst (es.map V.ref)) hep)
    have r4 := Same.upd (o := .lst (es.map V.ref)) s3 hep _ _ hr2
    generalize upd H3 ep (.lst (es.map V.ref)) = H4 at e4 t4 r4 ⊢
    clear ht s3 hep hd2 hr2
    dsimp only [gName]
    -- due
    refine ⟨Nat.zero_le _, fun up hup => ?_⟩
    have s5 := Same.upd0 (o := .lst []) hup
    refine ⟨_, rfl, rp, _, rfl, .inl (SqL.of (s5 _ _ r4)), _, _, rfl, rfl, _, rfl, by rw [ints_len]; omega, by rw [ints_len]; omega, ?_⟩
    have en : (((vI row).length : Int) + 1).toNat = row.length + 1 := by rw [ints_len]; omega
    rw [en]
    refine for_range (n := row.length + 1) (fun i σ H2 => ∃ (v0 v1 v3 v6 v7 v8 : Option V) (ds : List Addr), σ = [v0, v1, some (.ref rp), v3, some (.ref ep), some (.ref up), v6, v7, v8] ∧ Same H4 H2 ∧ H2 up = some (.lst (ds.map V.ref)) ∧ TupsAt H2 ds ((List.range i).map (caret row)))
      ?h0 ?_ ?_
    case h0 => exact ⟨_, _, _, _, _, _, [], rfl, s5, upd_same, .nil⟩
    · clear s5
      rintro i σ H5 hi ⟨v0, v1, v3, v6, v7, v8, ds, rfl, s5, u5, t5⟩
      have ei : (0 : Int) + (i : Int) = (i : Int) := by omega
      dsimp only [gName]
      rw [ei]
      refine ⟨(by show 2 ≤ sizeLine; decide), fun fa hfa => ?_⟩
      have nfu : up ≠ fa := ne_of_none u5 hfa
      have s6 : ∀ o : HO, Same H4 (upd H5 fa o) := fun o => Same.upd s5 hfa
      have dl : ds.length = i := by rw [t5.len]; simp
      -- the first face
      dsimp only [gName]
      refine seq_mid (fun σ H6 => σ = [v0, v1, some (.ref rp), v3, some (.ref ep), some (.ref up), some (.int (i : Int)), some (.ref fa), v8] ∧ H6 = upd H5 fa (.lst [faceV (caret row i).1, .non])) ?_ ?_
      · intro D' _ _ _ kk
        refine ⟨_, rfl, _, _, rfl, rfl, _, rfl, ?_⟩
        refine bOf (fun h1 => ?_) (fun h1 => ?_)
        · have h1 : (0 : Int) < (i : Int) := of_decide_eq_true h1
          obtain ⟨j, rfl⟩ : ∃ j, i = j + 1 := ⟨i - 1, by omega⟩
          have hj : j < row.length := by omega
          have ej : ((j + 1 : Nat) : Int) - 1 = (j : Int) := by omega
          obtain ⟨ea, hea, te⟩ := t4.atp (edgesP_at (row := row) hj)
          have hp := lvl_ge hR j
          have eA : atI [faceV (edgeP row j).1, faceV (edgeP row j).2] (1 - lvl row j % 2) = some (V.int (edgeE row j)) := by
            have := two_at (i := idx row j) (j := 1 - lvl row j % 2) (by omega) (by omega)
            have e2 : idx row j + (1 - lvl row j % 2) = edgeE row j := by unfold edgeE; omega
            rw [e2] at this
            exact this
          refine ⟨_, rfl, _, rfl, _, _, rfl, rfl, ep, _, _, _, rfl, rfl, SqL.of (s6 _ _ _ e4), (by show atI _ (((j + 1 : Nat) : Int) - 1) = _; rw [ej]; exact refs_at hea), ?_⟩
          refine ⟨_, rfl, _, rfl, _, _, rfl, rfl, rp, _, _, _, rfl, rfl, SqL.of (s6 _ _ _ r4), (by show atI _ (((j + 1 : Nat) : Int) - 1) = _; rw [ej]; exact lvl_at hj), _, _, rfl, rfl, (by show (0 : Int) < 2; decide), _, _, rfl, rfl, ea, _, _, _, rfl, rfl, SqT.of (s6 _ _ _ te), eA, ?_⟩
          refine ⟨_, rfl, fa, _, _, 0, rfl, rfl, upd_same, rfl, ?_⟩
          refine kk _ _ ⟨rfl, ?_⟩
          rw [upd_upd]
          rfl
        · have h1 : ¬ (0 : Int) < (i : Int) := of_decide_eq_false h1
          have : i = 0 := by omega
          subst this
          exact kk _ _ ⟨rfl, rfl⟩
      rintro σ H6 ⟨rfl, rfl⟩
      -- the second face
      refine seq_mid (fun σ H6 => σ = [v0, v1, some (.ref rp), v3, some (.ref ep), some (.ref up), some (.int (i : Int)), some (.ref fa), v8] ∧ H6 = upd H5 fa (.lst [faceV (caret row i).1, faceV (caret row i).2])) ?_ ?_
      · intro D' _ _ _ kk
        refine ⟨_, rfl, _, rfl, rp, _, rfl, .inl (SqL.of (s6 _ _ _ r4)), _, _, rfl, rfl, _, rfl, ?_⟩
        rw [ints_len]
        refine bOf (fun h1 => ?_) (fun h1 => ?_)
        · have h1 : (i : Int) < (row.length : Int) := of_decide_eq_true h1
          have hj : i < row.length := by omega
          obtain ⟨ea, hea, te⟩ := t4.atp (edgesP_at (row := row) hj)
          have hp := lvl_ge hR i
          have eA : atI [faceV (edgeP row i).1, faceV (edgeP row i).2] (lvl row i % 2) = some (V.int (edgeB row i)) := two_at (i := idx row i) (j := lvl row i % 2) (by omega) (by omega)
          refine ⟨_, rfl, _, rfl, ep, _, _, _, rfl, rfl, SqL.of (s6 _ _ _ e4), refs_at hea, ?_⟩
          refine ⟨_, rfl, _, rfl, rp, _, _, _, rfl, rfl, SqL.of (s6 _ _ _ r4), lvl_at hj, _, _, rfl, rfl, (by show (0 : Int) < 2; decide), ea, _, _, _, rfl, rfl, SqT.of (s6 _ _ _ te), eA, ?_⟩
          refine ⟨_, rfl, fa, _, _, 1, rfl, rfl, upd_same, rfl, ?_⟩
          refine kk _ _ ⟨rfl, ?_⟩
          rw [upd_upd]
          have e2 : (caret row i).2 = some (edgeB row i) := if_pos hj
          rw [e2]
          rfl
        · have h1 : ¬ (i : Int) < (row.length : Int) := of_decide_eq_false h1
          have e2 : (caret row i).2 = none := if_neg (by omega)
          refine kk _ _ ⟨rfl, ?_⟩
          rw [e2]
          rfl
      rintro σ H6 ⟨rfl, rfl⟩
      have u6 : upd H5 fa (.lst [faceV (caret row i).1, faceV (caret row i).2]) up = some (.lst (ds.map V.ref)) := by rw [upd_ne nfu]; exact u5
      have f6 : upd H5 fa (.lst [faceV (caret row i).1, faceV (caret row i).2]) fa = some (.lst [faceV (caret row i).1, faceV (caret row i).2]) := upd_same
      have t6 := t5.same (Same.upd0 (o := .lst [faceV (caret row i).1, faceV (caret row i).2]) hfa)
      have s7 := s6 (.lst [faceV (caret row i).1, faceV (caret row i).2])
      generalize upd H5 fa (.lst [faceV (caret row i).1, faceV (caret row i).2]) = H6 at u6 f6 t6 s7 ⊢
      refine ⟨_, rfl, .inl ⟨rfl, _, SqL.of u6⟩, _, rfl, fa, _, _, _, rfl, rfl, SqL.of f6, rfl, _, rfl, fa, _, _, _, rfl, rfl, SqL.of f6, rfl, (by show 2 ≤ sizeLine; decide), fun t ht => ?_⟩
      have u7 : upd H6 t (.tup [faceV (caret row i).1, faceV (caret row i).2]) up = some (.lst (ds.map V.ref)) := Same.upd0 ht _ _ u6
      have t7 := (t6.same (Same.upd0 (o := .tup [faceV (caret row i).1, faceV (caret row i).2]) ht)).snoc (a := t) (x := caret row i) upd_same
      refine ⟨up, _, _, rfl, rfl, u7, small1000 (by rw [List.length_map]; omega), ?_⟩
      refine ⟨_, _, _, _, _, _, ds ++ [t], rfl, Same.updT (Same.upd s7 ht) hup, by rw [upd_same]; simp, ?_⟩
      rw [List.range_succ, List.map_append]
      exact t7.off u7
    · clear s5
      rintro σ H5 ⟨v0, v1, v3, v6, v7, v8, ds, rfl, s5, u5, t5⟩
      have r5 := s5 _ _ r4
      have hcl := carets_len row
      -- found
      refine ⟨_, rfl, rp, _, rfl, .inl (SqL.of r5), fun cp hcp => ?_⟩
      have s6 := Same.upd0 (o := .lst (vI row)) hcp
      refine ⟨cp, row, rfl, SqL.of upd_same, hR, fun fp fs H7 s7 nfp hfp tfp => ?_⟩
      have s57 := Same.trans s6 s7
      have u7 := s57 _ _ u5
      have t7 : TupsAt H7 ds (carets row) := t5.same s57
      have r7 := s57 _ _ r5
      dsimp only [gName]
      refine ⟨_, rfl, _, rfl, fp, up, fs, ds, _, rfl, hfp, u7, tfp, t7, by omega, fun H8 s8 => ⟨_, rfl, iteF ?_⟩⟩
      -- one where the levels are one
      refine ⟨_, rfl, rp, _, rfl, .inl (SqL.of (s8 _ _ r7)), _, _, rfl, ⟨by decide, by decide, by rw [ints_len]; omega, by rw [ints_len]; omega⟩, ?_⟩
      have en : (((vI row).length : Int) - 1).toNat = row.length - 1 := by rw [ints_len]; omega
      rw [en]
      refine for_range (n := row.length - 1) (fun i σ H2 => (∃ (v0 v1 v3 v4 v6 v7 : Option V), σ = [v0, v1, some (.ref rp), v3, v4, some (.ref up), v6, v7, some (.ref fp)]) ∧ H2 = H8) ⟨⟨_, _, _, _, _, _, rfl⟩, rfl⟩ ?_ ?_
      · rintro i σ H9 hi ⟨⟨v0, v1, v3, v4, v6, v7, rfl⟩, rfl⟩
        have hi1 : i + 1 < row.length := by omega
        have r9 := s8 _ _ r7
        have e1 : (1 : Int) + (i : Int) - 1 = (i : Int) := by omega
        have e2 : (1 : Int) + (i : Int) = ((i + 1 : Nat) : Int) := by omega
        have a1 : atI (vI row) (1 + (i : Int) - 1) = some (V.int (lvl row i)) := by rw [e1]; exact lvl_at (by omega)
        have a2 : atI (vI row) (1 + (i : Int)) = some (V.int (lvl row (i + 1))) := by rw [e2]; exact lvl_at hi1
        dsimp only [gName]
        refine ⟨_, rfl, _, rfl, _, _, rfl, rfl, rp, _, _, _, rfl, rfl, SqL.of r9, a1, _, rfl, _, rfl, rp, _, _, _, rfl, rfl, SqL.of r9, a2, rfl, _, rfl, ?_⟩
        refine bOf (fun h1 => ?_) (fun h1 => ?_)
        · have h1 : lvl row i = lvl row (i + 1) := V.int.inj (of_decide_eq_true h1)
          obtain ⟨fa, hfa, tf⟩ := tfp.atp (carets_at (row := row) (p := i + 1) (by omega))
          have a3 : atI (fs.map V.ref) (1 + (i : Int)) = some (V.ref fa) := by rw [e2]; exact refs_at hfa
          have c1 : (caret row (i + 1)).1 = some (edgeE row i) := rfl
          have c2 : (caret row (i + 1)).2 = some (edgeB row (i + 1)) := if_pos hi1
          rw [c1, c2, caret_one hR hi1 h1] at tf
          refine ⟨_, rfl, _, rfl, fp, _, _, _, rfl, rfl, SqL.of (s8 _ _ hfp), a3, fa, _, _, _, rfl, rfl, SqT.of (s8 _ _ tf), rfl, ?_⟩
          refine ⟨_, rfl, _, rfl, fp, _, _, _, rfl, rfl, SqL.of (s8 _ _ hfp), a3, fa, _, _, _, rfl, rfl, SqT.of (s8 _ _ tf), rfl, rfl, _, rfl, ?_⟩
          exact iteNS rfl ⟨⟨_, _, _, _, _, _, rfl⟩, rfl⟩
        · exact ⟨⟨_, _, _, _, _, _, rfl⟩, rfl⟩
      rintro σ H9 ⟨⟨v0, v1, v3, v4, v6, v7, rfl⟩, rfl⟩
      have r9 := s8 _ _ r7
      have f9 := s8 _ _ hfp
      have u9 := s8 _ _ u7
      have t9 := t7.same s8
      have nfu : up ≠ fp := ne_of_none (s6 _ _ u5) nfp
      have nfr : rp ≠ fp := ne_of_none (s6 _ _ r5) nfp
      refine ⟨_, rfl, .inl ⟨rfl, _, SqL.of f9⟩, (by show 2 ≤ sizeLine; decide), fun t ht => ?_⟩
      have s10 := Same.upd0 (o := .tup [.non, .non]) ht
      have f10 := s10 _ _ f9
      refine ⟨fp, _, _, rfl, rfl, f10, small1000 (by rw [List.length_map, tfp.len]; omega), ?_⟩
      have u11 : ∀ {o : HO}, upd (upd H9 t (.tup [.non, .non])) fp o up = some (.lst (ds.map V.ref)) := by intro o; rw [upd_ne nfu]; exact s10 _ _ u9
      have r11 : ∀ {o : HO}, upd (upd H9 t (.tup [.non, .non])) fp o rp = some (.lst (vI row)) := by intro o; rw [upd_ne nfr]; exact s10 _ _ r9
      have t11 : ∀ {o : HO}, TupsAt (upd (upd H9 t (.tup [.non, .non])) fp o) ds (carets row) := by intro o; exact (t9.same s10).off f10
      refine ⟨_, rfl, rp, _, rfl, .inl (SqL.of r11), fun c2 hc2 => ?_⟩
      refine ⟨c2, row, rfl, SqL.of upd_same, hR, fun f2 fs2 H12 s12 nf2 hf2 tf2 => ?_⟩
      have s13 := Same.trans (Same.upd0 hc2) s12
      exact ⟨_, rfl, f2, up, fs2, ds, _, rfl, hf2, s13 _ _ u11, tf2, t11.same s13, by omega, fun H' _ => k _⟩
end
theorem all_mk {l : PySem.W.OpenLaw} {w : World} {K : PySem.W.Frag} {h : Heap} {mg : Str → Option Value} {fa f_longest_rows f_turned_about f_order f_seen_at f_begin_edge f_end_edge f_carets f__law_cell_at f__law_pick f__law_mix f__law_size f__law_row f__law_whole f__law_order f__law_face f__law_same f_law : Addr} (X : K.In h) (G : h.Ns mainGlobals mg) (hfa : mg "law" = some (.ref fa))
    {od_longest_rows an_longest_rows : Option Addr} {sl_longest_rows : Array (Option Value)} {oc_longest_rows kV_longest_rows dc_longest_rows pm_longest_rows cd_longest_rows ct_longest_rows : Value}
    (a_longest_rows : PySem.W.nsIn K mainGlobals "longest_rows" = some (some (.ref f_longest_rows))) (l_longest_rows : K.lookup f_longest_rows = some ⟨oc_longest_rows, od_longest_rows, .func (PySem.W.fnOf "longest_rows" "longest_rows" (defArgs s_longest_rows) (defBody s_longest_rows) (defScope s_longest_rows) .none kV_longest_rows dc_longest_rows pm_longest_rows an_longest_rows cd_longest_rows ct_longest_rows), sl_longest_rows⟩) (c_longest_rows : PySem.W.codeIn K cd_longest_rows "longest_rows" = true) (k_longest_rows : PySem.W.keepIn K (.ref f_longest_rows) = true)
    {od_turned_about an_turned_about : Option Addr} {sl_turned_about : Array (Option Value)} {oc_turned_about kV_turned_about dc_turned_about pm_turned_about cd_turned_about ct_turned_about : Value}
    (a_turned_about : PySem.W.nsIn K mainGlobals "turned_about" = some (some (.ref f_turned_about))) (l_turned_about : K.lookup f_turned_about = some ⟨oc_turned_about, od_turned_about, .func (PySem.W.fnOf "turned_about" "turned_about" (defArgs s_turned_about) (defBody s_turned_about) (defScope s_turned_about) .none kV_turned_about dc_turned_about pm_turned_about an_turned_about cd_turned_about ct_turned_about), sl_turned_about⟩) (c_turned_about : PySem.W.codeIn K cd_turned_about "turned_about" = true) (k_turned_about : PySem.W.keepIn K (.ref f_turned_about) = true)
    {od_order an_order : Option Addr} {sl_order : Array (Option Value)} {oc_order kV_order dc_order pm_order cd_order ct_order : Value}
    (a_order : PySem.W.nsIn K mainGlobals "order" = some (some (.ref f_order))) (l_order : K.lookup f_order = some ⟨oc_order, od_order, .func (PySem.W.fnOf "order" "order" (defArgs s_order) (defBody s_order) (defScope s_order) .none kV_order dc_order pm_order an_order cd_order ct_order), sl_order⟩) (c_order : PySem.W.codeIn K cd_order "order" = true) (k_order : PySem.W.keepIn K (.ref f_order) = true)
    {od_seen_at an_seen_at : Option Addr} {sl_seen_at : Array (Option Value)} {oc_seen_at kV_seen_at dc_seen_at pm_seen_at cd_seen_at ct_seen_at : Value}
    (a_seen_at : PySem.W.nsIn K mainGlobals "seen_at" = some (some (.ref f_seen_at))) (l_seen_at : K.lookup f_seen_at = some ⟨oc_seen_at, od_seen_at, .func (PySem.W.fnOf "seen_at" "seen_at" (defArgs s_seen_at) (defBody s_seen_at) (defScope s_seen_at) .none kV_seen_at dc_seen_at pm_seen_at an_seen_at cd_seen_at ct_seen_at), sl_seen_at⟩) (c_seen_at : PySem.W.codeIn K cd_seen_at "seen_at" = true) (k_seen_at : PySem.W.keepIn K (.ref f_seen_at) = true)
    {od_begin_edge an_begin_edge : Option Addr} {sl_begin_edge : Array (Option Value)} {oc_begin_edge kV_begin_edge dc_begin_edge pm_begin_edge cd_begin_edge ct_begin_edge : Value}
    (a_begin_edge : PySem.W.nsIn K mainGlobals "begin_edge" = some (some (.ref f_begin_edge))) (l_begin_edge : K.lookup f_begin_edge = some ⟨oc_begin_edge, od_begin_edge, .func (PySem.W.fnOf "begin_edge" "begin_edge" (defArgs s_begin_edge) (defBody s_begin_edge) (defScope s_begin_edge) .none kV_begin_edge dc_begin_edge pm_begin_edge an_begin_edge cd_begin_edge ct_begin_edge), sl_begin_edge⟩) (c_begin_edge : PySem.W.codeIn K cd_begin_edge "begin_edge" = true) (k_begin_edge : PySem.W.keepIn K (.ref f_begin_edge) = true)
    {od_end_edge an_end_edge : Option Addr} {sl_end_edge : Array (Option Value)} {oc_end_edge kV_end_edge dc_end_edge pm_end_edge cd_end_edge ct_end_edge : Value}
    (a_end_edge : PySem.W.nsIn K mainGlobals "end_edge" = some (some (.ref f_end_edge))) (l_end_edge : K.lookup f_end_edge = some ⟨oc_end_edge, od_end_edge, .func (PySem.W.fnOf "end_edge" "end_edge" (defArgs s_end_edge) (defBody s_end_edge) (defScope s_end_edge) .none kV_end_edge dc_end_edge pm_end_edge an_end_edge cd_end_edge ct_end_edge), sl_end_edge⟩) (c_end_edge : PySem.W.codeIn K cd_end_edge "end_edge" = true) (k_end_edge : PySem.W.keepIn K (.ref f_end_edge) = true)
    {od_carets an_carets : Option Addr} {sl_carets : Array (Option Value)} {oc_carets kV_carets dc_carets pm_carets cd_carets ct_carets : Value}
    (a_carets : PySem.W.nsIn K mainGlobals "carets" = some (some (.ref f_carets))) (l_carets : K.lookup f_carets = some ⟨oc_carets, od_carets, .func (PySem.W.fnOf "carets" "carets" (defArgs s_carets) (defBody s_carets) (defScope s_carets) .none kV_carets dc_carets pm_carets an_carets cd_carets ct_carets), sl_carets⟩) (c_carets : PySem.W.codeIn K cd_carets "carets" = true) (k_carets : PySem.W.keepIn K (.ref f_carets) = true)
    {od__law_cell_at an__law_cell_at : Option Addr} {sl__law_cell_at : Array (Option Value)} {oc__law_cell_at kV__law_cell_at dc__law_cell_at pm__law_cell_at cd__law_cell_at ct__law_cell_at : Value}
    (a__law_cell_at : PySem.W.nsIn K mainGlobals "_law_cell_at" = some (some (.ref f__law_cell_at))) (l__law_cell_at : K.lookup f__law_cell_at = some ⟨oc__law_cell_at, od__law_cell_at, .func (PySem.W.fnOf "_law_cell_at" "_law_cell_at" (defArgs s__law_cell_at) (defBody s__law_cell_at) (defScope s__law_cell_at) .none kV__law_cell_at dc__law_cell_at pm__law_cell_at an__law_cell_at cd__law_cell_at ct__law_cell_at), sl__law_cell_at⟩) (c__law_cell_at : PySem.W.codeIn K cd__law_cell_at "_law_cell_at" = true) (k__law_cell_at : PySem.W.keepIn K (.ref f__law_cell_at) = true)
    {od__law_pick an__law_pick : Option Addr} {sl__law_pick : Array (Option Value)} {oc__law_pick kV__law_pick dc__law_pick pm__law_pick cd__law_pick ct__law_pick : Value}
    (a__law_pick : PySem.W.nsIn K mainGlobals "_law_pick" = some (some (.ref f__law_pick))) (l__law_pick : K.lookup f__law_pick = some ⟨oc__law_pick, od__law_pick, .func (PySem.W.fnOf "_law_pick" "_law_pick" (defArgs s__law_pick) (defBody s__law_pick) (defScope s__law_pick) .none kV__law_pick dc__law_pick pm__law_pick an__law_pick cd__law_pick ct__law_pick), sl__law_pick⟩) (c__law_pick : PySem.W.codeIn K cd__law_pick "_law_pick" = true) (k__law_pick : PySem.W.keepIn K (.ref f__law_pick) = true)
    {od__law_mix an__law_mix : Option Addr} {sl__law_mix : Array (Option Value)} {oc__law_mix kV__law_mix dc__law_mix pm__law_mix cd__law_mix ct__law_mix : Value}
    (a__law_mix : PySem.W.nsIn K mainGlobals "_law_mix" = some (some (.ref f__law_mix))) (l__law_mix : K.lookup f__law_mix = some ⟨oc__law_mix, od__law_mix, .func (PySem.W.fnOf "_law_mix" "_law_mix" (defArgs s__law_mix) (defBody s__law_mix) (defScope s__law_mix) .none kV__law_mix dc__law_mix pm__law_mix an__law_mix cd__law_mix ct__law_mix), sl__law_mix⟩) (c__law_mix : PySem.W.codeIn K cd__law_mix "_law_mix" = true) (k__law_mix : PySem.W.keepIn K (.ref f__law_mix) = true)
    {od__law_size an__law_size : Option Addr} {sl__law_size : Array (Option Value)} {oc__law_size kV__law_size dc__law_size pm__law_size cd__law_size ct__law_size : Value}
    (a__law_size : PySem.W.nsIn K mainGlobals "_law_size" = some (some (.ref f__law_size))) (l__law_size : K.lookup f__law_size = some ⟨oc__law_size, od__law_size, .func (PySem.W.fnOf "_law_size" "_law_size" (defArgs s__law_size) (defBody s__law_size) (defScope s__law_size) .none kV__law_size dc__law_size pm__law_size an__law_size cd__law_size ct__law_size), sl__law_size⟩) (c__law_size : PySem.W.codeIn K cd__law_size "_law_size" = true) (k__law_size : PySem.W.keepIn K (.ref f__law_size) = true)
    {od__law_row an__law_row : Option Addr} {sl__law_row : Array (Option Value)} {oc__law_row kV__law_row dc__law_row pm__law_row cd__law_row ct__law_row : Value}
    (a__law_row : PySem.W.nsIn K mainGlobals "_law_row" = some (some (.ref f__law_row))) (l__law_row : K.lookup f__law_row = some ⟨oc__law_row, od__law_row, .func (PySem.W.fnOf "_law_row" "_law_row" (defArgs s__law_row) (defBody s__law_row) (defScope s__law_row) .none kV__law_row dc__law_row pm__law_row an__law_row cd__law_row ct__law_row), sl__law_row⟩) (c__law_row : PySem.W.codeIn K cd__law_row "_law_row" = true) (k__law_row : PySem.W.keepIn K (.ref f__law_row) = true)
    {od__law_whole an__law_whole : Option Addr} {sl__law_whole : Array (Option Value)} {oc__law_whole kV__law_whole dc__law_whole pm__law_whole cd__law_whole ct__law_whole : Value}
    (a__law_whole : PySem.W.nsIn K mainGlobals "_law_whole" = some (some (.ref f__law_whole))) (l__law_whole : K.lookup f__law_whole = some ⟨oc__law_whole, od__law_whole, .func (PySem.W.fnOf "_law_whole" "_law_whole" (defArgs s__law_whole) (defBody s__law_whole) (defScope s__law_whole) .none kV__law_whole dc__law_whole pm__law_whole an__law_whole cd__law_whole ct__law_whole), sl__law_whole⟩) (c__law_whole : PySem.W.codeIn K cd__law_whole "_law_whole" = true) (k__law_whole : PySem.W.keepIn K (.ref f__law_whole) = true)
    {od__law_order an__law_order : Option Addr} {sl__law_order : Array (Option Value)} {oc__law_order kV__law_order dc__law_order pm__law_order cd__law_order ct__law_order : Value}
    (a__law_order : PySem.W.nsIn K mainGlobals "_law_order" = some (some (.ref f__law_order))) (l__law_order : K.lookup f__law_order = some ⟨oc__law_order, od__law_order, .func (PySem.W.fnOf "_law_order" "_law_order" (defArgs s__law_order) (defBody s__law_order) (defScope s__law_order) .none kV__law_order dc__law_order pm__law_order an__law_order cd__law_order ct__law_order), sl__law_order⟩) (c__law_order : PySem.W.codeIn K cd__law_order "_law_order" = true) (k__law_order : PySem.W.keepIn K (.ref f__law_order) = true)
    {od__law_face an__law_face : Option Addr} {sl__law_face : Array (Option Value)} {oc__law_face kV__law_face dc__law_face pm__law_face cd__law_face ct__law_face : Value}
    (a__law_face : PySem.W.nsIn K mainGlobals "_law_face" = some (some (.ref f__law_face))) (l__law_face : K.lookup f__law_face = some ⟨oc__law_face, od__law_face, .func (PySem.W.fnOf "_law_face" "_law_face" (defArgs s__law_face) (defBody s__law_face) (defScope s__law_face) .none kV__law_face dc__law_face pm__law_face an__law_face cd__law_face ct__law_face), sl__law_face⟩) (c__law_face : PySem.W.codeIn K cd__law_face "_law_face" = true) (k__law_face : PySem.W.keepIn K (.ref f__law_face) = true)
    {od__law_same an__law_same : Option Addr} {sl__law_same : Array (Option Value)} {oc__law_same kV__law_same dc__law_same pm__law_same cd__law_same ct__law_same : Value}
    (a__law_same : PySem.W.nsIn K mainGlobals "_law_same" = some (some (.ref f__law_same))) (l__law_same : K.lookup f__law_same = some ⟨oc__law_same, od__law_same, .func (PySem.W.fnOf "_law_same" "_law_same" (defArgs s__law_same) (defBody s__law_same) (defScope s__law_same) .none kV__law_same dc__law_same pm__law_same an__law_same cd__law_same ct__law_same), sl__law_same⟩) (c__law_same : PySem.W.codeIn K cd__law_same "_law_same" = true) (k__law_same : PySem.W.keepIn K (.ref f__law_same) = true)
    {od_law an_law : Option Addr} {sl_law : Array (Option Value)} {oc_law kV_law dc_law pm_law cd_law ct_law : Value}
    (a_law : PySem.W.nsIn K mainGlobals "law" = some (some (.ref f_law))) (l_law : K.lookup f_law = some ⟨oc_law, od_law, .func (PySem.W.fnOf "law" "law" (defArgs s_law) (defBody s_law) (defScope s_law) .none kV_law dc_law pm_law an_law cd_law ct_law), sl_law⟩) (c_law : PySem.W.codeIn K cd_law "law" = true) (k_law : PySem.W.keepIn K (.ref f_law) = true)
    (z_len : PySem.W.nsIn K mainGlobals "len" = some none)
    (z_range : PySem.W.nsIn K mainGlobals "range" = some none)
    (z_list : PySem.W.nsIn K mainGlobals "list" = some none)
    (z_isinstance : PySem.W.nsIn K mainGlobals "isinstance" = some none)
    (z_str : PySem.W.nsIn K mainGlobals "str" = some none)
    (z_int : PySem.W.nsIn K mainGlobals "int" = some none)
    (z_bool : PySem.W.nsIn K mainGlobals "bool" = some none)
    (z_zip : PySem.W.nsIn K mainGlobals "zip" = some none)
    (z_enumerate : PySem.W.nsIn K mainGlobals "enumerate" = some none)
    (z_reversed : PySem.W.nsIn K mainGlobals "reversed" = some none)
    (z_min : PySem.W.nsIn K mainGlobals "min" = some none)
    (z_max : PySem.W.nsIn K mainGlobals "max" = some none)
    (z_sorted : PySem.W.nsIn K mainGlobals "sorted" = some none)
    (z_all : PySem.W.nsIn K mainGlobals "all" = some none)
    (z_set : PySem.W.nsIn K mainGlobals "set" = some none)
    (z_tuple : PySem.W.nsIn K mainGlobals "tuple" = some none)
    (z_any : PySem.W.nsIn K mainGlobals "any" = some none)
    (z_sum : PySem.W.nsIn K mainGlobals "sum" = some none)
    : ∃ fd : FuncData, (∀ (s : Shared) (v : Value), BindsTo s fd ⟨[v], []⟩ [("script", v)]) ∧ ∀ base : Heap, K.In base → base.Ns mainGlobals mg → FnOk l.prog w K mg base CX0 30 fa fd ["script"] (spLaw K) := by
  have e := hfa.symm.trans (PySem.W.mg_of X G a_law)
  cases e
  have T : Blt mg := ⟨PySem.W.mg_none_of X G z_len, PySem.W.mg_none_of X G z_range, PySem.W.mg_none_of X G z_list, PySem.W.mg_none_of X G z_isinstance, PySem.W.mg_none_of X G z_str, PySem.W.mg_none_of X G z_int, PySem.W.mg_none_of X G z_bool, PySem.W.mg_none_of X G z_zip, PySem.W.mg_none_of X G z_enumerate, PySem.W.mg_none_of X G z_reversed⟩
  have T2 : BltB mg := ⟨PySem.W.mg_none_of X G z_min, PySem.W.mg_none_of X G z_max, PySem.W.mg_none_of X G z_sorted, PySem.W.mg_none_of X G z_all, PySem.W.mg_none_of X G z_set, PySem.W.mg_none_of X G z_tuple, PySem.W.mg_none_of X G z_any, PySem.W.mg_none_of X G z_sum⟩
  have F_longest_rows := fun_mk (st := s_longest_rows) l_longest_rows c_longest_rows k_longest_rows
  have b_longest_rows := F_longest_rows.binds (ps := ["places"]) fun _ _ _ _ _ _ us hl => match us, hl with | [_], _ => rfl
  have F_turned_about := fun_mk (st := s_turned_about) l_turned_about c_turned_about k_turned_about
  have b_turned_about := F_turned_about.binds (ps := ["row", "first", "behind"]) fun _ _ _ _ _ _ us hl => match us, hl with | [_, _, _], _ => rfl
  have F_order := fun_mk (st := s_order) l_order c_order k_order
  have b_order := F_order.binds (ps := ["levels"]) fun _ _ _ _ _ _ us hl => match us, hl with | [_], _ => rfl
  have F_seen_at := fun_mk (st := s_seen_at) l_seen_at c_seen_at k_seen_at
  have b_seen_at := F_seen_at.binds (ps := ["levels"]) fun _ _ _ _ _ _ us hl => match us, hl with | [_], _ => rfl
  have F_begin_edge := fun_mk (st := s_begin_edge) l_begin_edge c_begin_edge k_begin_edge
  have b_begin_edge := F_begin_edge.binds (ps := ["level", "seen"]) fun _ _ _ _ _ _ us hl => match us, hl with | [_, _], _ => rfl
  have F_end_edge := fun_mk (st := s_end_edge) l_end_edge c_end_edge k_end_edge
  have b_end_edge := F_end_edge.binds (ps := ["level", "seen"]) fun _ _ _ _ _ _ us hl => match us, hl with | [_, _], _ => rfl
  have F_carets := fun_mk (st := s_carets) l_carets c_carets k_carets
  have b_carets := F_carets.binds (ps := ["levels"]) fun _ _ _ _ _ _ us hl => match us, hl with | [_], _ => rfl
  have F__law_cell_at := fun_mk (st := s__law_cell_at) l__law_cell_at c__law_cell_at k__law_cell_at
  have b__law_cell_at := F__law_cell_at.binds (ps := ["script", "k"]) fun _ _ _ _ _ _ us hl => match us, hl with | [_, _], _ => rfl
  have F__law_pick := fun_mk (st := s__law_pick) l__law_pick c__law_pick k__law_pick
  have b__law_pick := F__law_pick.binds (ps := ["script", "k"]) fun _ _ _ _ _ _ us hl => match us, hl with | [_, _], _ => rfl
  have F__law_mix := fun_mk (st := s__law_mix) l__law_mix c__law_mix k__law_mix
  have b__law_mix := F__law_mix.binds (ps := ["cell", "k"]) fun _ _ _ _ _ _ us hl => match us, hl with | [_, _], _ => rfl
  have F__law_size := fun_mk (st := s__law_size) l__law_size c__law_size k__law_size
  have b__law_size := F__law_size.binds (ps := ["cell"]) fun _ _ _ _ _ _ us hl => match us, hl with | [_], _ => rfl
  have F__law_row := fun_mk (st := s__law_row) l__law_row c__law_row k__law_row
  have b__law_row := F__law_row.binds (ps := ["script", "start", "size", "way"]) fun _ _ _ _ _ _ us hl => match us, hl with | [_, _, _, _], _ => rfl
  have F__law_whole := fun_mk (st := s__law_whole) l__law_whole c__law_whole k__law_whole
  have b__law_whole := F__law_whole.binds (ps := ["x"]) fun _ _ _ _ _ _ us hl => match us, hl with | [_], _ => rfl
  have F__law_order := fun_mk (st := s__law_order) l__law_order c__law_order k__law_order
  have b__law_order := F__law_order.binds (ps := ["row", "places", "level"]) fun _ _ _ _ _ _ us hl => match us, hl with | [_, _, _], _ => rfl
  have F__law_face := fun_mk (st := s__law_face) l__law_face c__law_face k__law_face
  have b__law_face := F__law_face.binds (ps := ["found", "due"]) fun _ _ _ _ _ _ us hl => match us, hl with | [_, _], _ => rfl
  have F__law_same := fun_mk (st := s__law_same) l__law_same c__law_same k__law_same
  have b__law_same := F__law_same.binds (ps := ["found", "due"]) fun _ _ _ _ _ _ us hl => match us, hl with | [_, _], _ => rfl
  have F_law := fun_mk (st := s_law) l_law c_law k_law
  refine ⟨PySem.W.fnOf "law" "law" (defArgs s_law) (defBody s_law) (defScope s_law) .none kV_law dc_law pm_law an_law cd_law ct_law, fun s v => .of_eq rfl, fun base _ _ => ?_⟩
  have D_longest_rows : Def l.prog w K mg base "longest_rows" 1 ["places"] (spRows K) := ⟨f_longest_rows, _, ok_longest_rows F_longest_rows, PySem.W.mg_of X G a_longest_rows, k_longest_rows, b_longest_rows⟩
  have D_turned_about : Def l.prog w K mg base "turned_about" 1 ["row", "first", "behind"] (spTurn K) := ⟨f_turned_about, _, ok_turned_about F_turned_about T, PySem.W.mg_of X G a_turned_about, k_turned_about, b_turned_about⟩
  have D_order : Def l.prog w K mg base "order" 3 ["levels"] (spOrder K) := ⟨f_order, _, ok_order F_order T T2 D_longest_rows D_turned_about, PySem.W.mg_of X G a_order, k_order, b_order⟩
  have D_seen_at : Def l.prog w K mg base "seen_at" 4 ["levels"] (spSeenAt K) := ⟨f_seen_at, _, ok_seen_at F_seen_at T D_order, PySem.W.mg_of X G a_seen_at, k_seen_at, b_seen_at⟩
  have D_begin_edge : Def l.prog w K mg base "begin_edge" 1 ["level", "seen"] (spEdgeB) := ⟨f_begin_edge, _, ok_begin_edge F_begin_edge, PySem.W.mg_of X G a_begin_edge, k_begin_edge, b_begin_edge⟩
  have D_end_edge : Def l.prog w K mg base "end_edge" 1 ["level", "seen"] (spEdgeE) := ⟨f_end_edge, _, ok_end_edge F_end_edge, PySem.W.mg_of X G a_end_edge, k_end_edge, b_end_edge⟩
  have D_carets : Def l.prog w K mg base "carets" 5 ["levels"] (spCarets K) := ⟨f_carets, _, ok_carets F_carets T D_seen_at D_begin_edge D_end_edge, PySem.W.mg_of X G a_carets, k_carets, b_carets⟩
  have D__law_cell_at : Def l.prog w K mg base "_law_cell_at" 1 ["script", "k"] (spCell K) := ⟨f__law_cell_at, _, ok_cell_at F__law_cell_at T, PySem.W.mg_of X G a__law_cell_at, k__law_cell_at, b__law_cell_at⟩
  have D__law_pick : Def l.prog w K mg base "_law_pick" 2 ["script", "k"] (spPick K) := ⟨f__law_pick, _, ok_pick F__law_pick T D__law_cell_at, PySem.W.mg_of X G a__law_pick, k__law_pick, b__law_pick⟩
  have D__law_mix : Def l.prog w K mg base "_law_mix" 1 ["cell", "k"] (spMix) := ⟨f__law_mix, _, ok_mix F__law_mix, PySem.W.mg_of X G a__law_mix, k__law_mix, b__law_mix⟩
  have D__law_size : Def l.prog w K mg base "_law_size" 1 ["cell"] (spSize) := ⟨f__law_size, _, ok_size F__law_size, PySem.W.mg_of X G a__law_size, k__law_size, b__law_size⟩
  have D__law_row : Def l.prog w K mg base "_law_row" 3 ["script", "start", "size", "way"] (spRow K) := ⟨f__law_row, _, ok_law_row F__law_row T T2 D__law_pick D__law_mix, PySem.W.mg_of X G a__law_row, k__law_row, b__law_row⟩
  have D__law_whole : Def l.prog w K mg base "_law_whole" 1 ["x"] (spWhole) := ⟨f__law_whole, _, ok_whole F__law_whole T, PySem.W.mg_of X G a__law_whole, k__law_whole, b__law_whole⟩
  have D__law_order : Def l.prog w K mg base "_law_order" 10 ["row", "places", "level"] (spOrdN K 10) := ⟨f__law_order, _, ok_law_order F__law_order T (PySem.W.mg_of X G a__law_order) k__law_order b__law_order 10, PySem.W.mg_of X G a__law_order, k__law_order, b__law_order⟩
  have D__law_face : Def l.prog w K mg base "_law_face" 2 ["found", "due"] (spFace) := ⟨f__law_face, _, ok_law_face F__law_face D__law_whole, PySem.W.mg_of X G a__law_face, k__law_face, b__law_face⟩
  have D__law_same : Def l.prog w K mg base "_law_same" 3 ["found", "due"] (spSameC) := ⟨f__law_same, _, ok_law_same F__law_same T T2 D__law_face, PySem.W.mg_of X G a__law_same, k__law_same, b__law_same⟩
  exact ok_law F_law T D__law_cell_at D__law_row D__law_size D__law_order (Def.mono (k := 20) D_carets (by decide)) D__law_same
end TS
open PySem PySem.W PyProof.Rows
set_option maxRecDepth 100000 in
set_option maxHeartbeats 0 in
theorem PySem.Challenge.cw_turnscript_k09_carets_holds : PySem.Challenge.rw_turnscript_k09_carets.Holds := by
  w_on; o_law; k_head; (case hw => w_witness2)
  k_fill
  refine LX.walk_law (l := PySem.Challenge.rw_turnscript_k09_carets) (k := 30) rfl rfl ⟨rfl, by decide, by decide⟩ (fun w h Y => PySem.W.kIn_of Y) ?F
  case F =>
    intro w mg fa h KX G hmg
    refine' TS.all_mk KX G hmg ?a_longest_rows ?l_longest_rows ?c_longest_rows ?k_longest_rows ?a_turned_about ?l_turned_about ?c_turned_about ?k_turned_about ?a_order ?l_order ?c_order ?k_order ?a_seen_at ?l_seen_at ?c_seen_at ?k_seen_at ?a_begin_edge ?l_begin_edge ?c_begin_edge ?k_begin_edge ?a_end_edge ?l_end_edge ?c_end_edge ?k_end_edge ?a_carets ?l_carets ?c_carets ?k_carets ?a__law_cell_at ?l__law_cell_at ?c__law_cell_at ?k__law_cell_at ?a__law_pick ?l__law_pick ?c__law_pick ?k__law_pick ?a__law_mix ?l__law_mix ?c__law_mix ?k__law_mix ?a__law_size ?l__law_size ?c__law_size ?k__law_size ?a__law_row ?l__law_row ?c__law_row ?k__law_row ?a__law_whole ?l__law_whole ?c__law_whole ?k__law_whole ?a__law_order ?l__law_order ?c__law_order ?k__law_order ?a__law_face ?l__law_face ?c__law_face ?k__law_face ?a__law_same ?l__law_same ?c__law_same ?k__law_same ?a_law ?l_law ?c_law ?k_law ?z_len ?z_range ?z_list ?z_isinstance ?z_str ?z_int ?z_bool ?z_zip ?z_enumerate ?z_reversed ?z_min ?z_max ?z_sorted ?z_all ?z_set ?z_tuple ?z_any ?z_sum
    (case a_longest_rows => k_is)
    (case l_longest_rows => k_is)
    (case c_longest_rows => k_is)
    (case k_longest_rows => k_is)
    (case a_turned_about => k_is)
    (case l_turned_about => k_is)
    (case c_turned_about => k_is)
    (case k_turned_about => k_is)
    (case a_order => k_is)
    (case l_order => k_is)
    (case c_order => k_is)
    (case k_order => k_is)
    (case a_seen_at => k_is)
    (case l_seen_at => k_is)
    (case c_seen_at => k_is)
    (case k_seen_at => k_is)
    (case a_begin_edge => k_is)
    (case l_begin_edge => k_is)
    (case c_begin_edge => k_is)
    (case k_begin_edge => k_is)
    (case a_end_edge => k_is)
    (case l_end_edge => k_is)
    (case c_end_edge => k_is)
    (case k_end_edge => k_is)
    (case a_carets => k_is)
    (case l_carets => k_is)
    (case c_carets => k_is)
    (case k_carets => k_is)
    (case a__law_cell_at => k_is)
    (case l__law_cell_at => k_is)
    (case c__law_cell_at => k_is)
    (case k__law_cell_at => k_is)
    (case a__law_pick => k_is)
    (case l__law_pick => k_is)
    (case c__law_pick => k_is)
    (case k__law_pick => k_is)
    (case a__law_mix => k_is)
    (case l__law_mix => k_is)
    (case c__law_mix => k_is)
    (case k__law_mix => k_is)
    (case a__law_size => k_is)
    (case l__law_size => k_is)
    (case c__law_size => k_is)
    (case k__law_size => k_is)
    (case a__law_row => k_is)
    (case l__law_row => k_is)
    (case c__law_row => k_is)
    (case k__law_row => k_is)
    (case a__law_whole => k_is)
    (case l__law_whole => k_is)
    (case c__law_whole => k_is)
    (case k__law_whole => k_is)
    (case a__law_order => k_is)
    (case l__law_order => k_is)
    (case c__law_order => k_is)
    (case k__law_order => k_is)
    (case a__law_face => k_is)
    (case l__law_face => k_is)
    (case c__law_face => k_is)
    (case k__law_face => k_is)
    (case a__law_same => k_is)
    (case l__law_same => k_is)
    (case c__law_same => k_is)
    (case k__law_same => k_is)
    (case a_law => k_is)
    (case l_law => k_is)
    (case c_law => k_is)
    (case k_law => k_is)
    (case z_len => k_is)
    (case z_range => k_is)
    (case z_list => k_is)
    (case z_isinstance => k_is)
    (case z_str => k_is)
    (case z_int => k_is)
    (case z_bool => k_is)
    (case z_zip => k_is)
    (case z_enumerate => k_is)
    (case z_reversed => k_is)
    (case z_min => k_is)
    (case z_max => k_is)
    (case z_sorted => k_is)
    (case z_all => k_is)
    (case z_set => k_is)
    (case z_tuple => k_is)
    (case z_any => k_is)
    (case z_sum => k_is)
