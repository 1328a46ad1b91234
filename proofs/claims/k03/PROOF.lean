import PyProof.Rows.All
import Wide.All
import OpenK.AllK
import Wide.FinOn
import Lean
import PyProof.EqAt
import PyProof.EqKinds
import PyProof.TupleCall
import PyProof.NeKinds
import PyProof.RulesTry
import KE.KTryMore
import PySem.Challenge.RW_markwords_k03_quotients
set_option Elab.async false
set_option linter.all false
set_option maxRecDepth 100000
/-! THE HAND LAYER, for ints, bools, texts, own classes, LISTS and tuples (index, slices, in, append, pop ..), calls, loops. Paste it whole ahead of your own text; what your proof does not reach may be deleted. -/
namespace L2
open PySem PySem.Spec PyProof.Rows

/-- a key: an int or a str -/
abbrev Key := Sum Int Str
def keyIs : Key → Value → Bool
  | .inl k, v => Value.isInt k v
  | .inr x, v => Value.isStrOf x v
def keyH (w : World) : Key → Int
  | .inl k => hashInt k
  | .inr x => hashStr w x
theorem keyIs_shape : ∀ {k : Key} {v : Value}, keyIs k v = true → (∃ i t, k = Sum.inl i ∧ v = Value.int i t) ∨ (∃ x t, k = Sum.inr x ∧ v = Value.str x t)
  | .inl i, v, h => by
    obtain ⟨t, e⟩ := Value.isInt_shape (k := i) (v := v) h
    exact .inl ⟨i, t, rfl, e⟩
  | .inr x, v, h => by
    obtain ⟨t, e⟩ := Value.isStrOf_shape (x := x) (v := v) h
    exact .inr ⟨x, t, rfl, e⟩
theorem key_ll (a b : Int) : decide ((Sum.inl a : Key) = Sum.inl b) = (a == b) := by
  by_cases e : a = b
  · subst e; simp
  · have h : ¬ (Sum.inl a : Key) = Sum.inl b := fun q => e (Sum.inl.inj q)
    rw [decide_eq_false h]
    exact (beq_eq_false_iff_ne.mpr e).symm
theorem key_rr (a b : Str) : decide ((Sum.inr a : Key) = Sum.inr b) = decide (a = b) := by
  by_cases e : a = b
  · subst e; simp
  · have h : ¬ (Sum.inr a : Key) = Sum.inr b := fun q => e (Sum.inr.inj q)
    rw [decide_eq_false h, decide_eq_false e]
theorem key_lr (a : Int) (b : Str) : decide ((Sum.inl a : Key) = Sum.inr b) = false := decide_eq_false (fun q => nomatch q)
theorem key_rl (a : Str) (b : Int) : decide ((Sum.inr a : Key) = Sum.inl b) = false := decide_eq_false (fun q => nomatch q)

def mixKind (prog : Program) (w : World) : PySem.KeyKind prog w Key where
  is := keyIs
  hash := keyH w
  inj := fun v a b ha hb => by
    rcases keyIs_shape ha with ⟨i, t, rfl, rfl⟩ | ⟨x, t, rfl, rfl⟩
    · rcases keyIs_shape hb with ⟨j, u, rfl, e⟩ | ⟨y, u, rfl, e⟩
      · injection e with e1 _; rw [e1]
      · exact nomatch e
    · rcases keyIs_shape hb with ⟨j, u, rfl, e⟩ | ⟨y, u, rfl, e⟩
      · exact nomatch e
      · injection e with e1 _; rw [e1]
  byValue := fun k v h => by
    rcases keyIs_shape h with ⟨i, t, rfl, rfl⟩ | ⟨x, t, rfl, rfl⟩ <;> rfl
  pyHash := fun hv h => by
    rcases keyIs_shape hv with ⟨i, t, rfl, rfl⟩ | ⟨x, t, rfl, rfl⟩
    · exact wpAny_pyHash_int h
    · exact wpAny_pyHash_str h
  eqBool := fun hu hv h => by
    rcases keyIs_shape hu with ⟨i, t, rfl, rfl⟩ | ⟨x, t, rfl, rfl⟩
    · rcases keyIs_shape hv with ⟨j, u, rfl, rfl⟩ | ⟨y, u, rfl, rfl⟩
      · rw [key_ll] at h; exact wpAny_eqBool_int h
      · rw [key_lr] at h; exact SeqAt.EqAt.int_str i t y u _ _ _ _ h
    · rcases keyIs_shape hv with ⟨j, u, rfl, rfl⟩ | ⟨y, u, rfl, rfl⟩
      · rw [key_rl] at h; exact SeqAt.EqAt.str_int x t j u _ _ _ _ h
      · rw [key_rr] at h; exact wpAny_eqBool_str h
  «strs» := fun k x t v h => by
    rcases keyIs_shape h with ⟨i, u, rfl, e⟩ | ⟨y, u, rfl, e⟩
    · exact nomatch e
    · injection e with e1 _
      subst e1
      cases v <;> rfl

end L2

namespace L2
open PySem PySem.Spec PyProof.Rows

/-- a value, without the heap -/
inductive V where
  | non | bl (b : Bool) | int (i : Int) | str (x : Str) | byt (b : Array UInt8) | flt (b : UInt64) | ref (a : Addr) | ty (n : String)
  deriving DecidableEq

def RelV : V → Value → Prop
  | .non, u => u = Value.none
  | .bl b, u => u = Value.bool b
  | .int i, u => ∃ t, u = Value.int i t
  | .str x, u => ∃ t, u = Value.str x t
  | .byt b, u => ∃ t, u = Value.bytes b t
  | .flt b, u => ∃ t, u = Value.float b t
  | .ref a, u => u = Value.ref a
  | .ty n, u => u = Value.type n

abbrev Vals : List V → List Value → Prop := Paired RelV
theorem Vals.length {xs : List V} {us : List Value} (r : Vals xs us) : xs.length = us.length := Paired.length r
theorem Vals.get : ∀ {xs : List V} {us : List Value} {i : Nat} {x : V}, Vals xs us → xs[i]? = some x → ∃ u, us[i]? = some u ∧ RelV x u
  | _, _, _, _, .nil, e => by simp at e
  | _, _, 0, _, .cons r _, e => by simp at e; subst e; exact ⟨_, rfl, r⟩
  | _, _, i + 1, x, .cons _ t, e => by
    obtain ⟨u, h1, h2⟩ := Vals.get (i := i) (x := x) t (by simpa using e)
    exact ⟨u, by simpa using h1, h2⟩
theorem Vals.set {x : V} {u : Value} (r : RelV x u) : ∀ {xs : List V} {us : List Value} (i : Nat), Vals xs us → Vals (xs.set i x) (us.set i u)
  | _, _, _, .nil => .nil
  | _, _, 0, .cons _ t => .cons r t
  | _, _, i + 1, .cons q t => .cons q (Vals.set r i t)
theorem Vals.append : ∀ {xs ys : List V} {us ws : List Value}, Vals xs us → Vals ys ws → Vals (xs ++ ys) (us ++ ws)
  | _, _, _, _, .nil, s => s
  | _, _, _, _, .cons r t, s => .cons r (Vals.append t s)
theorem Vals.take : ∀ {xs : List V} {us : List Value} (n : Nat), Vals xs us → Vals (xs.take n) (us.take n)
  | _, _, 0, _ => .nil
  | _, _, _ + 1, .nil => .nil
  | _, _, n + 1, .cons r t => .cons r (Vals.take n t)
theorem Vals.drop : ∀ {xs : List V} {us : List Value} (n : Nat), Vals xs us → Vals (xs.drop n) (us.drop n)
  | _, _, 0, r => r
  | _, _, _ + 1, .nil => .nil
  | _, _, n + 1, .cons _ t => Vals.drop n t
def RelO : Option V → Option Value → Prop
  | some v, some u => RelV v u
  | none, none => True
  | _, _ => False
def KV {κ : Type} : List (κ × V) → List (κ × Value) → Prop := Paired fun (p : κ × V) (q : κ × Value) => p.1 = q.1 ∧ RelV p.2 q.2

/-- a key of a dict (00_mix): an int or a text -/
def kV : Key → V
  | .inl i => .int i
  | .inr x => .str x

/-- what stands at a tracked address -/
inductive HO where
  /-- a list -/
  | lst (xs : List V)
  /-- a tuple (never changes) -/
  | tup (xs : List V)
  /-- a dict whose keys are ints and texts; one whose keys are tuples of ints and texts (the empty one is both) -/
  | dK (kvs : List (Key × V)) | dT (kvs : List (List Key × V))
  /-- a set of ints: its members, its size -/
  | set (S : Int → Bool) (n : Nat)
  /-- an instance of the class at C, its dict at dx, its attributes -/
  | ins (C dx : Addr) (fs : List (Str × V))
  /-- the dict of the instance at x -/
  | own (x : Addr)
  /-- the dict of an exception -/
  | xd (fs : List (Str × V))
  /-- a bound method, f of x -/
  | met (f x : Addr)
  /-- a range object lo, lo + 1, .. below hi -/
  | rng (lo hi : Int)
  /-- a thing that is known to the object (the script; a dict while a loop walks it): read, never written while it is so -/
  | frz (o : Obj) (u : HO)
  /-- a code object's table -/
  | tbl (ps : Array Value)
  /-- any other thing, by what is true of its one object (a def of one's own: SetO a S n := HO.ext fun h => ..) -/
  | ext (φ : Heap → Prop)

abbrev Hp := Addr → Option HO
def upd (H : Hp) (a : Addr) (o : HO) : Hp := fun b => if b = a then some o else H b
theorem upd_same {H : Hp} {a : Addr} {o : HO} : upd H a o a = some o := by unfold upd; rw [if_pos rfl]
theorem upd_ne {H : Hp} {a b : Addr} {o : HO} (h : b ≠ a) : upd H a o b = H b := by unfold upd; rw [if_neg h]
theorem ne_of_none {H : Hp} {a b : Addr} {o : HO} (h : H a = some o) (h' : H b = none) : a ≠ b := by
  intro e; subst e; rw [h] at h'; cases h'

section
variable (P : Program) (w : World)
def ObjOk (H : Hp) (h : Heap) (a : Addr) : HO → Prop
  | .lst xs => xs.length ≤ sizeLine ∧ ∃ (its : List Value) (n : Nat), Vals xs its ∧ h.get? a = some { cls := .type "list", data := .seq its.toArray n }
  | .tup xs => xs.length ≤ sizeLine ∧ ∃ its : List Value, Vals xs its ∧ IsTup h a its.toArray
  | .dK kvs => kvs.length ≤ sizeLine ∧ (a == sysModules) = false ∧ ∃ vs, KV kvs vs ∧ h.DictOf (mixKind P w) a vs
  | .dT kvs => kvs.length ≤ sizeLine ∧ (a == sysModules) = false ∧ ∃ xs : List (List Key × Addr × Value),
      Paired (fun (p : List Key × V) (q : List Key × Addr × Value) => p.1 = q.1 ∧ H q.2.1 = some (.tup (p.1.map kV)) ∧ RelV p.2 q.2.2) kvs xs ∧
      ∃ o es ep, h.get? a = some o ∧ o.ExactDict ∧ o.data = .dict es ep ∧ es.toList = xs.map (entryOfKey (tupleKind (mixKind P w))) ∧ (xs.map (·.1)).Nodup
  | .set S n => h.SetOf (intKind P w) a S n
  | .ins C dx fs => H dx = some (.own a) ∧ fs.length ≤ 1000 ∧ dx ≠ a ∧ h.get? a = some (PySem.W.instObj C dx) ∧
      ∃ mA, h.Ns1 dx mA ∧ (∀ f, RelO (fs.lookup f) (mA f)) ∧ PySem.Within mA (fs.map (·.1))
  | .own _ => ∃ o, h.get? a = some o
  | .xd fs => ∃ mA, h.Ns1 a mA ∧ ∀ f, RelO (fs.lookup f) (mA f)
  | .rng lo hi => ∃ t u v, h.get? a = some { cls := .type "range", data := .fields #[.int lo t, .int hi u, .int 1 v] }
  | .frz o u => h.get? a = some o ∧ ObjOk H h a u
  | .tbl ps => h.get? a = some { cls := .none, data := .fields ps }
  | .met f x => h.get? a = some (PySem.W.methodObj (.ref f) (.ref x))
  | .ext φ => φ h ∧ (∃ o, h.get? a = some o) ∧ ∀ h1 h2 : Heap, φ h1 → (∀ o, h1.get? a = some o → h2.get? a = some o) → φ h2
/-- the abstract heap is held -/
def HOk (H : Hp) (h : Heap) : Prop := ∀ a o, H a = some o → ObjOk P w H h a o
end

section
variable {P : Program} {w : World} {H H' : Hp} {h h' : Heap} {a : Addr} {o : HO}
theorem ObjOk.lt (x : ObjOk P w H h a o) : a < h.objs.size := by
  cases o with
  | lst xs => obtain ⟨_, _, _, _, e⟩ := x; exact Heap.lt_size e
  | tup xs => obtain ⟨_, _, _, p⟩ := x; exact p.lt
  | dK kvs => obtain ⟨_, _, _, _, o, _, _, e, _⟩ := x; exact Heap.lt_size e
  | dT kvs => obtain ⟨_, _, _, _, o, _, _, e, _⟩ := x; exact Heap.lt_size e
  | set S n => obtain ⟨o, _, _, _, e, _⟩ := x; exact Heap.lt_size e
  | ins C dx fs => obtain ⟨_, _, _, e, _⟩ := x; exact Heap.lt_size e
  | own y => obtain ⟨_, e⟩ := x; exact Heap.lt_size e
  | xd fs => obtain ⟨_, ⟨_, _, _, e, _⟩, _⟩ := x; exact Heap.lt_size e
  | rng lo hi => obtain ⟨_, _, _, e⟩ := x; exact Heap.lt_size e
  | frz ob u => obtain ⟨e, _⟩ := x; exact Heap.lt_size e
  | tbl ps => exact Heap.lt_size (show h.get? a = some _ from x)
  | met f y => exact Heap.lt_size (show h.get? a = some _ from x)
  | ext φ => obtain ⟨_, ⟨_, e⟩, _⟩ := x; exact Heap.lt_size e
theorem Paired.mapP {α β : Type} {F G : α → β → Prop} : ∀ {l₁ : List α} {l₂ : List β}, Paired F l₁ l₂ → (∀ a b, F a b → G a b) → Paired G l₁ l₂
  | _, _, .nil, _ => .nil
  | _, _, .cons r t, f => .cons (f _ _ r) (Paired.mapP t f)
/-- what an object's description leans on: its own object, its own dict, the tuples -/
theorem ObjOk.stay (x : ObjOk P w H h a o) (k : ∀ b u, (b = a ∨ H b = some (.own a)) → h.get? b = some u → h'.get? b = some u)
    (ho : ∀ b, H b = some (.own a) → H' b = some (.own a)) (ht : ∀ b xs, H b = some (.tup xs) → H' b = some (.tup xs)) : ObjOk P w H' h' a o := by
  induction o with
  | lst xs => obtain ⟨z, its, n, r, e⟩ := x; exact ⟨z, its, n, r, k _ _ (.inl rfl) e⟩
  | tup xs => obtain ⟨z, its, r, ob, e, c⟩ := x; exact ⟨z, its, r, ob, k _ _ (.inl rfl) e, c⟩
  | dK kvs => obtain ⟨z, y, vs, r, ob, es, ep, e, c⟩ := x; exact ⟨z, y, vs, r, ob, es, ep, k _ _ (.inl rfl) e, c⟩
  | dT kvs =>
    obtain ⟨z, y, xs, r, ob, es, ep, e, c⟩ := x
    exact ⟨z, y, xs, Paired.mapP r fun p q z => ⟨z.1, ht _ _ z.2.1, z.2.2⟩, ob, es, ep, k _ _ (.inl rfl) e, c⟩
  | set S n => obtain ⟨ob, es, ep, t, e, c⟩ := x; exact ⟨ob, es, ep, t, k _ _ (.inl rfl) e, c⟩
  | ins C dx fs =>
    obtain ⟨d, z, ne, e, mA, ⟨od, es, ep, e2, c⟩, r⟩ := x
    exact ⟨ho _ d, z, ne, k _ _ (.inl rfl) e, mA, ⟨od, es, ep, k _ _ (.inr d) e2, c⟩, r⟩
  | own y => obtain ⟨ob, e⟩ := x; exact ⟨ob, k _ _ (.inl rfl) e⟩
  | xd fs => obtain ⟨mA, ⟨od, es, ep, e, c⟩, r⟩ := x; exact ⟨mA, ⟨od, es, ep, k _ _ (.inl rfl) e, c⟩, r⟩
  | rng lo hi => obtain ⟨t, u, v, e⟩ := x; exact ⟨t, u, v, k _ _ (.inl rfl) e⟩
  | frz ob u ih => obtain ⟨e, q⟩ := x; exact ⟨k _ _ (.inl rfl) e, ih q⟩
  | tbl ps =>
    have e : h.get? a = some { cls := .none, data := .fields ps } := x
    show h'.get? a = some { cls := .none, data := .fields ps }
    exact k a _ (.inl rfl) e
  | met f y =>
    have e : h.get? a = some (PySem.W.methodObj (.ref f) (.ref y)) := x
    show h'.get? a = some (PySem.W.methodObj (.ref f) (.ref y))
    exact k a _ (.inl rfl) e
  | ext φ => obtain ⟨p, ⟨o, e⟩, st⟩ := x; exact ⟨st _ _ p fun o q => k _ _ (.inl rfl) q, ⟨o, k _ _ (.inl rfl) e⟩, st⟩
theorem HOk.lt (x : HOk P w H h) (e : H a = some o) : a < h.objs.size := (x a o e).lt
theorem HOk.fresh (x : HOk P w H h) (e : h.objs.size ≤ a) : H a = none := by
  cases q : H a with
  | none => rfl
  | some u => exact absurd (Nat.lt_of_lt_of_le (x.lt q) e) (Nat.lt_irrefl _)
/-- every object of the heap is kept -/
theorem HOk.kept (x : HOk P w H h) (k : ∀ b u, h.get? b = some u → h'.get? b = some u) : HOk P w H h' := fun a o e =>
  (x a o e).stay (fun b u _ q => k b u q) (fun _ q => q) fun _ _ q => q
/-- a new object is laid and tracked -/
theorem HOk.laid (x : HOk P w H h) (k : ∀ b u, h.get? b = some u → h'.get? b = some u) (hp : h.objs.size ≤ a) (new : ObjOk P w (upd H a o) h' a o) : HOk P w (upd H a o) h' := fun b u e => by
  have hn := x.fresh hp
  by_cases hb : b = a
  · subst hb; rw [upd_same] at e; cases e; exact new
  · rw [upd_ne hb] at e
    exact (x b u e).stay (fun c v _ q => k c v q) (fun c q => by rw [upd_ne (ne_of_none q hn)]; exact q) fun c xs q => by rw [upd_ne (ne_of_none q hn)]; exact q
end

/-- what may be read as u: it is u, or a known u -/
def Rd (H : Hp) (a : Addr) (u : HO) : Prop := H a = some u ∨ ∃ o, H a = some (.frz o u)
theorem Rd.of {H : Hp} {a : Addr} {u : HO} (h : H a = some u) : Rd H a u := .inl h
theorem Rd.ok {P : Program} {w : World} {H : Hp} {h : Heap} {a : Addr} {u : HO} (r : Rd H a u) (x : HOk P w H h) : ObjOk P w H h a u := by
  rcases r with r | ⟨o, r⟩
  · exact x a u r
  · obtain ⟨_, q⟩ := x a _ r
    exact q
/-- what may be written -/
def Mut : Option HO → Prop
  | some (.lst _) => True
  | some (.dK _) => True
  | some (.dT _) => True
  | some (.set _ _) => True
  | some (.ins _ _ _) => True
  | some (.ext _) => True
  | _ => False
section
variable {P : Program} {w : World} {H : Hp} {h h' : Heap} {x e : Addr} {o' : HO}
/-- the object at e is changed: x itself, or the dict of the instance x -/
theorem HOk.write (ok : HOk P w H h) (mu : Mut (H x)) (he : e = x ∨ H e = some (.own x)) (k : ∀ b u, b ≠ e → h.get? b = some u → h'.get? b = some u) (heo : ∃ u, h'.get? e = some u)
    (new : ObjOk P w (upd H x o') h' x o') : HOk P w (upd H x o') h' := fun b u q => by
  have nown : ∀ c y, H c = some (.own y) → c ≠ x := fun c y r z => by subst z; rw [r] at mu; exact mu
  have ntup : ∀ c xs, H c = some (.tup xs) → c ≠ x := fun c xs r z => by subst z; rw [r] at mu; exact mu
  by_cases hb : b = x
  · subst hb; rw [upd_same] at q; cases q; exact new
  · rw [upd_ne hb] at q
    by_cases hbe : b = e
    · have q' : H b = some (.own x) := by
        rcases he with z | z
        · exact absurd (hbe.trans z) hb
        · rw [hbe]; exact z
      rw [q] at q'; cases q'
      obtain ⟨v, hv⟩ := heo
      exact ⟨v, by rw [hbe]; exact hv⟩
    · refine (ok b u q).stay (fun c v hc r => k c v ?_ r) (fun c r => by rw [upd_ne (nown c b r)]; exact r) fun c xs r => by rw [upd_ne (ntup c xs r)]; exact r
      rcases hc with rfl | hc
      · exact hbe
      · rintro rfl
        rcases he with z | z
        · exact nown c b hc z
        · rw [hc] at z; cases z; exact hb rfl
end

/-! ### kept unless tracked; of the frames at fs (the callers') the slots may change (an exception that passes writes there); of the records at ex (iterators) nothing is said -/
structure Un (fs ex : List Addr) (H H' : Hp) (h h' : Heap) : Prop where
  keep : ∀ b o, h.get? b = some o → H b = none → b ∉ fs → b ∉ ex → h'.get? b = some o
  slot : ∀ b o, h.get? b = some o → H b = none → b ∈ fs → b ∉ ex → ∃ sl, h'.get? b = some { o with slots := sl }
  free : ∀ b o, h.get? b = some o → H b = none → b ∉ ex → H' b = none
  there : ∀ b o, h.get? b = some o → b ∉ ex → ∃ o', h'.get? b = some o'
  tups : ∀ b xs, H b = some (.tup xs) → H' b = some (.tup xs)
  frzs : ∀ b o u, H b = some (.frz o u) → H' b = some (.frz o u)
  tbls : ∀ b ps, H b = some (.tbl ps) → ∃ more, H' b = some (.tbl (ps ++ more))
section
variable {fs fs' ex ex' : List Addr} {H H1 H2 : Hp} {h h1 h2 h' : Heap} {a x e : Addr} {o : HO}
theorem Un.any (u : Un fs ex H H1 h h1) {b : Addr} {ob : Obj} (q : h.get? b = some ob) (n : H b = none) (hx : b ∉ ex) : ∃ sl, h1.get? b = some { ob with slots := sl } := by
  by_cases hb : b ∈ fs
  · exact u.slot b ob q n hb hx
  · exact ⟨ob.slots, u.keep b ob q n hb hx⟩
theorem Un.trans (a : Un fs ex H H1 h h1) (b : Un fs ex H1 H2 h1 h2) : Un fs ex H H2 h h2 where
  keep := fun c ob q n hc hx => b.keep c ob (a.keep c ob q n hc hx) (a.free c ob q n hx) hc hx
  slot := fun c ob q n hc hx => by
    obtain ⟨sl, e1⟩ := a.slot c ob q n hc hx
    obtain ⟨sl', e2⟩ := b.slot c _ e1 (a.free c ob q n hx) hc hx
    exact ⟨sl', e2⟩
  free := fun c ob q n hx => by
    obtain ⟨o', e1⟩ := a.there c ob q hx
    exact b.free c o' e1 (a.free c ob q n hx) hx
  there := fun c ob q hx => by
    obtain ⟨o', e1⟩ := a.there c ob q hx
    exact b.there c o' e1 hx
  tups := fun c xs q => b.tups c xs (a.tups c xs q)
  frzs := fun c ob xs q => b.frzs c ob xs (a.frzs c ob xs q)
  tbls := fun c ps q => by
    obtain ⟨m1, e1⟩ := a.tbls c ps q
    obtain ⟨m2, e2⟩ := b.tbls c _ e1
    exact ⟨m1 ++ m2, by rw [e2, Array.append_assoc]⟩
theorem Un.kept (k : ∀ b u, h.get? b = some u → h'.get? b = some u) : Un fs ex H H h h' :=
  ⟨fun b ob q _ _ _ => k b ob q, fun b ob q _ _ _ => ⟨ob.slots, k b ob q⟩, fun _ _ _ n _ => n, fun b ob q _ => ⟨ob, k b ob q⟩, fun _ _ q => q, fun _ _ _ q => q, fun _ ps q => ⟨#[], by rw [q]; simp⟩⟩
theorem Un.refl : Un fs ex H H h h := Un.kept fun _ _ q => q
theorem Un.laid (k : ∀ b u, h.get? b = some u → h'.get? b = some u) (hp : h.objs.size ≤ a) (hn : H a = none) : Un fs ex H (upd H a o) h h' where
  keep := fun b u q _ _ _ => k b u q
  slot := fun b u q _ _ _ => ⟨u.slots, k b u q⟩
  free := fun b u q n _ => by rw [upd_ne (Nat.ne_of_lt (Nat.lt_of_lt_of_le (Heap.lt_size q) hp))]; exact n
  there := fun b u q _ => ⟨u, k b u q⟩
  tups := fun b xs q => by rw [upd_ne (ne_of_none q hn)]; exact q
  frzs := fun b u xs q => by rw [upd_ne (ne_of_none q hn)]; exact q
  tbls := fun b ps q => ⟨#[], by rw [upd_ne (ne_of_none q hn), q]; simp⟩
theorem Un.write (mu : Mut (H x)) (he : e = x ∨ H e = some (.own x)) (k : ∀ b u, b ≠ e → h.get? b = some u → h'.get? b = some u) (heo : ∃ u, h'.get? e = some u) : Un fs ex H (upd H x o) h h' := by
  have hx : ∀ b, H b = none → b ≠ x := fun b n z => by subst z; rw [n] at mu; exact mu
  have hb : ∀ b, H b = none → b ≠ e := fun b n z => by
    subst z
    rcases he with r | r
    · exact hx b n r
    · rw [n] at r; cases r
  have hm : ∀ b u, H b = some u → ¬ Mut (some u) → b ≠ x := fun b u q nm z => by subst z; rw [q] at mu; exact nm mu
  refine ⟨fun b u q n _ _ => k b u (hb b n) q, fun b u q n _ _ => ⟨u.slots, k b u (hb b n) q⟩, fun b u q n _ => by rw [upd_ne (hx b n)]; exact n, fun b u q _ => ?_,
    fun b xs q => by rw [upd_ne (hm b _ q fun z => z)]; exact q, fun b u xs q => by rw [upd_ne (hm b _ q fun z => z)]; exact q, fun b ps q => ⟨#[], by rw [upd_ne (hm b _ q fun z => z), q]; simp⟩⟩
  by_cases hbe : b = e
  · subst hbe; exact heo
  · exact ⟨u, k b u hbe q⟩
theorem Un.mono (u : Un fs ex H H1 h h1) (hs : ∀ b ∈ fs, b ∈ fs') (hx : ∀ b ∈ ex, b ∈ ex') : Un fs' ex' H H1 h h1 :=
  ⟨fun b ob q n hb he => u.keep b ob q n (fun z => hb (hs b z)) fun z => he (hx b z), fun _ _ q n _ he => u.any q n fun z => he (hx _ z), fun b ob q n he => u.free b ob q n fun z => he (hx b z), fun b ob q he => u.there b ob q fun z => he (hx b z), u.tups, u.frzs, u.tbls⟩
end

/-! ### the heap without what is tracked -/
def trk (h : Heap) (H : Hp) : List Addr := (List.range h.objs.size).filter fun a => (H a).isSome
def hidT (h : Heap) (H : Hp) : Heap := PySem.W.hideAll h (trk h H)
theorem hidT_size (h : Heap) (H : Hp) : (hidT h H).objs.size = h.objs.size := PySem.W.hideAll_size _ _
theorem hidT_get {h : Heap} {H : Hp} {b : Addr} {o : Obj} (e : h.get? b = some o) (n : H b = none) : (hidT h H).get? b = some o :=
  PySem.W.hideAll_get _ e fun hm => by
    have q : (H b).isSome = true := (List.mem_filter.mp hm).2
    rw [n] at q; simp at q
theorem of_hidT {h : Heap} {H : Hp} {b : Addr} {o : Obj} (e : (hidT h H).get? b = some o) : h.get? b = some o ∧ H b = none := by
  have e' : h.get? b = some o := PySem.W.of_hideAll (trk h H) e
  refine ⟨e', ?_⟩
  cases q : H b with
  | none => rfl
  | some x =>
    have hm : b ∈ trk h H := List.mem_filter.mpr ⟨List.mem_range.mpr (Heap.lt_size e'), by simp [q]⟩
    have z : (hidT h H).get? b = none := PySem.W.hideAll_none (trk h H) hm
    rw [z] at e; cases e

/-! ### OpenK's ledger, filled with every new object but one -/
def allNews (g h : Heap) (L : Addr) : List (Addr × Obj) := (List.range h.objs.size).filterMap fun a => if a = L ∨ (g.get? a).isSome = true then none else (h.get? a).map fun o => (a, o)
def rest (g h : Heap) (L d : Addr) : List (Addr × Obj) := (allNews g h L).filter fun p => decide (p.1 ≠ d)
end L2

namespace L2
open PySem PySem.Spec PyProof.Rows

/-- the module's facts, over the base: the heap at the law's entry without what is tracked there -/
structure Mod (K : PySem.W.Frag) (mg : Str → Option Value) (base : Heap) : Prop where
  kin : K.In base
  glob : base.Ns mainGlobals mg
  blt : ∃ mb, base.Ns builtinsNs mb ∧ ∀ x : Str, x ≠ "__name__" → mb x = bootBuiltins x
  nolimit : base.NoLimit

/-- the context: a def's body (or a comprehension's block) running. base: fixed through the whole law; s₀, H₀: the entry; outer: the frames whose slots others may change (a def's callers); stack: all frames that run;
   ex: iterators that were made ahead of the entry and are walked here (a comprehension's); fn: the names whose cells were made at the entry (a def: all; a comprehension's block: its own); calm: not within an except suite; pn: pins that every state bears; xe: what is wanted of an exception that leaves the code -/
structure Cx where
  prog : Program
  w : World
  K : PySem.W.Frag
  mg : Str → Option Value
  base : Heap
  A : Around
  N : List Str
  s₀ : Shared
  H₀ : Hp
  env : Env
  outer : List Env
  stack : List Env
  ex : List Addr
  fn : Str → Bool
  calm : Bool
  pn : List (Addr × Obj)
  xe : Value → Shared → Prop
/-- the callers' frames -/
def frs (l : List Env) : List Addr := l.filterMap (·.frame)
abbrev Cx.fs (X : Cx) : List Addr := frs X.outer

def Vis (sc : Scope) (x : Str) : Prop := sc.names.lookup x = some .local ∨ sc.names.lookup x = some .cell ∨ sc.names.lookup x = some .free
def Loc (sc : Scope) (x : Str) : Prop := sc.names.lookup x = some .local ∨ sc.names.lookup x = some .cell
def Look (env : Env) (h : Heap) (m : Str → Option Value) (x : Str) (u : Value) : Prop :=
  (env.kindOf x = some .local ∧ m x = some u) ∨ ((env.kindOf x = some .cell ∨ env.kindOf x = some .free) ∧ ∃ c, env.cells.lookup x = some c ∧ h.IsCell c (some u))

structure Cx.Ok (X : Cx) : Prop where
  mod : Mod X.K X.mg X.base
  kind : X.env.scope.kind = .function
  glob : X.env.globals = mainGlobals
  blt : X.env.builtins = builtinsNs
  above : X.s₀.heap.objs.size ≤ X.env.locals
  inj : ∀ x y c, X.env.cells.lookup x = some c → X.env.cells.lookup y = some c → x = y
  has : ∀ x, (X.env.kindOf x = some .cell ∨ X.env.kindOf x = some .free) → ∃ c, X.env.cells.lookup x = some c
  cab : ∀ x c, X.fn x = true → X.env.cells.lookup x = some c → X.s₀.heap.objs.size ≤ c
  hd : X.calm = true → X.A.handled = none
  frames : X.A.frames = some X.stack
  stk : X.stack = X.outer ∨ (X.stack = X.env :: X.outer ∧ X.env.frame = some X.env.locals)
  exf : ∀ b ∈ X.ex, b ≠ X.env.locals ∧ ∀ x c, X.env.cells.lookup x = some c → c ≠ b
  bs : ∀ b o, X.base.get? b = some o → X.s₀.heap.get? b = some o ∧ X.H₀ b = none
  bsz : X.base.objs.size ≤ X.s₀.heap.objs.size
  noex : ∀ b o, X.base.get? b = some o → b ∉ X.ex
  exfs : ∀ b ∈ X.ex, b ∉ X.fs
  funs : X.s₀.heap.FunFrames X.base X.outer
  frf : ∀ b ∈ X.fs, X.H₀ b = none

structure Inv (X : Cx) (pins : List (Addr × Obj)) (σ : List (Option V)) (H : Hp) (s : Shared) : Prop where
  ok : X.Ok
  os : s.os = X.s₀.os
  bare : AllBare s.gens
  base : Un X.fs X.ex X.H₀ H X.s₀.heap s.heap
  loc : ∃ m, s.heap.Ns X.env.locals m ∧ ∀ (i : Nat) (x : Str) (v : V), X.N[i]? = some x → σ[i]? = some (some v) → Vis X.env.scope x → ∃ u, RelV v u ∧ Look X.env s.heap m x u
  cell : ∀ x c, X.env.cells.lookup x = some c → ∃ v, s.heap.IsCell c v
  free : H X.env.locals = none
  freeC : ∀ x c, X.env.cells.lookup x = some c → H c = none
  pin : ∀ p ∈ X.pn ++ pins, s.heap.get? p.1 = some p.2 ∧ H p.1 = none ∧ p.1 ≠ X.env.locals ∧ p.1 ∉ X.fs ∧ ∀ v, p.2.data ≠ .cell v
  hok : HOk X.prog X.w H s.heap
  len : σ.length = X.N.length

section
variable {X : Cx} {pins : List (Addr × Obj)} {σ : List (Option V)} {H H' : Hp} {s : Shared} {h' : Heap}

theorem Cx.Ok.nofr (ok : X.Ok) {b : Addr} {o : Obj} (e : X.base.get? b = some o) : b ∉ X.fs := fun hb => by
  have := (ok.funs.mem hb).1
  rw [e] at this; cases this
theorem Inv.bs (I : Inv X pins σ H s) : ∀ b o, X.base.get? b = some o → s.heap.get? b = some o ∧ H b = none := fun b o e =>
  ⟨I.base.keep b o (I.ok.bs b o e).1 (I.ok.bs b o e).2 (I.ok.nofr e) (I.ok.noex b o e), I.base.free b o (I.ok.bs b o e).1 (I.ok.bs b o e).2 (I.ok.noex b o e)⟩
theorem Inv.bk (I : Inv X pins σ H s) : ∀ b o, X.base.get? b = some o → s.heap.get? b = some o := fun b o e => (I.bs b o e).1
theorem Inv.mod (I : Inv X pins σ H s) : Mod X.K X.mg X.base := I.ok.mod
theorem Inv.kIn (I : Inv X pins σ H s) : X.K.In s.heap := I.ok.mod.kin.keeps I.bk
/-- the frame over the base: for OpenK's rules (K.In X.base is I.mod.kin) -/
theorem Inv.fr (I : Inv X pins σ H s) : ∃ m, Fr X.base X.env.locals s.heap m :=
  let ⟨m, hn, _⟩ := I.loc
  ⟨m, hn, I.bk, Nat.le_trans I.ok.bsz I.ok.above⟩
theorem Inv.lt (I : Inv X pins σ H s) : X.env.locals < s.heap.objs.size := let ⟨_, hn, _⟩ := I.loc; hn.lt
theorem Inv.sz (I : Inv X pins σ H s) : X.s₀.heap.objs.size ≤ s.heap.objs.size := Nat.le_trans I.ok.above (Nat.le_of_lt I.lt)
theorem Inv.nofs (I : Inv X pins σ H s) {a : Addr} (h : s.heap.objs.size ≤ a) : a ∉ X.fs := fun hb => by
  obtain ⟨_, o, ho, _⟩ := I.ok.funs.mem hb
  exact absurd (Nat.lt_of_lt_of_le (Heap.lt_size ho) (Nat.le_trans I.sz h)) (Nat.lt_irrefl _)
theorem Inv.cne (I : Inv X pins σ H s) : ∀ x c, X.env.cells.lookup x = some c → c ≠ X.env.locals := fun x c e z => by
  obtain ⟨v, o, ho, hd⟩ := I.cell x c e
  obtain ⟨m, ⟨o', es, ep, ho', hd', _⟩, _⟩ := I.loc
  rw [z, ho'] at ho; cases ho; rw [hd'] at hd; cases hd
theorem Inv.funs (I : Inv X pins σ H s) : s.heap.FunFrames X.base X.outer := by
  have all : ∀ (l : List Env), (∀ b ∈ frs l, b ∈ X.fs) → X.s₀.heap.FunFrames X.base l → s.heap.FunFrames X.base l := by
    intro l
    induction l with
    | nil => intro _ _; trivial
    | cons env r ih =>
      intro hs hl
      obtain ⟨hk, ⟨L, o, hf, hn, ho, hd⟩, hr⟩ := hl
      have hL : L ∈ X.fs := hs L (by unfold frs; rw [List.filterMap_cons, hf]; exact List.mem_cons_self)
      obtain ⟨sl, e⟩ := I.base.slot L o ho (I.ok.frf L hL) hL fun z => I.ok.exfs L z hL
      exact ⟨hk, ⟨L, _, hf, hn, e, hd⟩, ih (fun b hb => hs b (by unfold frs; rw [List.filterMap_cons, hf]; exact List.mem_cons_of_mem _ hb)) hr⟩
  exact all X.outer (fun _ hb => hb) I.ok.funs

/-- the frames that run, for a call -/
theorem Inv.stack (I : Inv X pins σ H s) : s.heap.FunFrames X.base X.stack := by
  rcases I.ok.stk with e | ⟨e, hf⟩
  · rw [e]; exact I.funs
  · rw [e]
    obtain ⟨m, hn, _⟩ := I.loc
    refine .cons (by rw [I.ok.kind]; decide) hf hn ?_ I.funs
    exact Heap.get?_none_of_le (Nat.le_trans I.ok.bsz I.ok.above)
theorem Inv.stkSub (I : Inv X pins σ H s) : ∀ b ∈ frs X.stack, b ∈ X.env.locals :: X.fs := fun b hb => by
  rcases I.ok.stk with e | ⟨e, hf⟩
  · rw [e] at hb; exact List.mem_cons_of_mem _ hb
  · rw [e] at hb
    unfold frs at hb
    rw [List.filterMap_cons, hf] at hb
    exact hb
theorem Inv.stkFree (I : Inv X pins σ H s) : ∀ b ∈ frs X.stack, H b = none := fun b hb => by
  rcases List.mem_cons.mp (I.stkSub b hb) with e | hb
  · rw [e]; exact I.free
  · obtain ⟨_, o, ho, _⟩ := I.ok.funs.mem hb
    exact I.base.free b o ho (I.ok.frf b hb) fun z => I.ok.exfs b z hb

/-- THE STEP: the untracked objects but the frame and the records at ch are kept (the callers' frames up to slots), the frame's map is kept, the new abstract heap is held -/
theorem Inv.step {g' : Array GenState} {t' : Nat} {d' : Drawn} {ch : List Addr} (I : Inv X pins σ H s)
    (hch : ∀ b ∈ ch, (b ∈ X.ex ∨ X.s₀.heap.objs.size ≤ b) ∧ b ≠ X.env.locals ∧ (∀ x c, X.env.cells.lookup x = some c → c ≠ b) ∧ ∀ p ∈ X.pn ++ pins, p.1 ≠ b)
    (keep : ∀ b o, b ≠ X.env.locals → b ∉ X.fs → b ∉ ch → s.heap.get? b = some o → H b = none → h'.get? b = some o)
    (slot : ∀ b o, b ≠ X.env.locals → b ∈ X.fs → b ∉ ch → s.heap.get? b = some o → H b = none → ∃ sl, h'.get? b = some { o with slots := sl }) (free : ∀ b o, b ∉ ch → s.heap.get? b = some o → H b = none → H' b = none)
    (there : ∀ b o, b ∉ ch → s.heap.get? b = some o → ∃ o', h'.get? b = some o')
    (tups : ∀ b xs, H b = some (.tup xs) → H' b = some (.tup xs)) (frzs : ∀ b o u, H b = some (.frz o u) → H' b = some (.frz o u)) (tbls : ∀ b ps, H b = some (.tbl ps) → ∃ more, H' b = some (.tbl (ps ++ more)))
    (ns : ∀ m, s.heap.Ns X.env.locals m → h'.Ns X.env.locals m) (hok : HOk X.prog X.w H' h') (hg : AllBare g') :
    Inv X pins σ H' { s with heap := h', gens := g', drawn := d', toks := t' } := by
  have neL : ∀ b o, X.s₀.heap.get? b = some o → b ≠ X.env.locals := fun b o e => Nat.ne_of_lt (Nat.lt_of_lt_of_le (Heap.lt_size e) I.ok.above)
  have neC : ∀ b o, X.s₀.heap.get? b = some o → b ∉ X.ex → b ∉ ch := fun b o e hx hb => by
    rcases (hch b hb).1 with z | z
    · exact hx z
    · exact absurd (Nat.lt_of_lt_of_le (Heap.lt_size e) z) (Nat.lt_irrefl _)
  have cellK : ∀ x c, X.env.cells.lookup x = some c → ∀ v, s.heap.IsCell c v → h'.IsCell c v := fun x c e v ⟨o, ho, hd⟩ => by
    have nch : c ∉ ch := fun z => (hch c z).2.2.1 x c e rfl
    by_cases hc : c ∈ X.fs
    · obtain ⟨sl, q⟩ := slot c o (I.cne x c e) hc nch ho (I.freeC x c e)
      exact ⟨_, q, hd⟩
    · exact ⟨o, keep c o (I.cne x c e) hc nch ho (I.freeC x c e), hd⟩
  refine ⟨I.ok, I.os, hg, ⟨fun b o e n hb hx => ?_, fun b o e n hb hx => ?_, fun b o e n hx => ?_, fun b o e hx => ?_, fun b xs e => tups b xs (I.base.tups b xs e), fun b o xs e => frzs b o xs (I.base.frzs b o xs e), fun b ps e => ?_⟩, ?_, fun x c e => ?_, ?_, fun x c e => ?_, fun p hp => ?_, hok, I.len⟩
  · exact keep b o (neL b o e) hb (neC b o e hx) (I.base.keep b o e n hb hx) (I.base.free b o e n hx)
  · obtain ⟨sl, e1⟩ := I.base.slot b o e n hb hx
    obtain ⟨sl', e2⟩ := slot b _ (neL b o e) hb (neC b o e hx) e1 (I.base.free b o e n hx)
    exact ⟨sl', e2⟩
  · obtain ⟨o', e1⟩ := I.base.there b o e hx
    exact free b o' (neC b o e hx) e1 (I.base.free b o e n hx)
  · obtain ⟨o', e1⟩ := I.base.there b o e hx
    exact there b o' (neC b o e hx) e1
  · obtain ⟨m1, e1⟩ := I.base.tbls b ps e
    obtain ⟨m2, e2⟩ := tbls b _ e1
    exact ⟨m1 ++ m2, by rw [e2, Array.append_assoc]⟩
  · obtain ⟨m, hn, hl⟩ := I.loc
    refine ⟨m, ns m hn, fun i x v e1 e2 e3 => ?_⟩
    obtain ⟨u, r, l⟩ := hl i x v e1 e2 e3
    refine ⟨u, r, ?_⟩
    rcases l with l | ⟨k, c, e, z⟩
    · exact .inl l
    · exact .inr ⟨k, c, e, cellK x c e _ z⟩
  · obtain ⟨v, z⟩ := I.cell x c e
    exact ⟨v, cellK x c e v z⟩
  · obtain ⟨m, ⟨o, _, _, ho, _⟩, _⟩ := I.loc
    exact free _ o (fun z => (hch _ z).2.1 rfl) ho I.free
  · obtain ⟨v, o, ho, hd⟩ := I.cell x c e
    exact free c o (fun z => (hch c z).2.2.1 x c e rfl) ho (I.freeC x c e)
  · obtain ⟨e, n, ne, nf, d⟩ := I.pin p hp
    have nch : p.1 ∉ ch := fun z => (hch p.1 z).2.2.2 p hp rfl
    exact ⟨keep p.1 p.2 ne nf nch e n, free p.1 p.2 nch e n, ne, nf, d⟩
/-- .. where the frame's own object is kept too -/
theorem Inv.un {t' : Nat} (I : Inv X pins σ H s) (u : Un X.fs [] H H' s.heap h') (hok : HOk X.prog X.w H' h') : Inv X pins σ H' { s with heap := h', toks := t' } := by
  obtain ⟨m, ⟨o, es, ep, ho, r⟩, _⟩ := id I.loc
  obtain ⟨sl, hL⟩ := u.any ho I.free (by simp)
  exact I.step (g' := s.gens) (d' := s.drawn) (ch := []) (fun _ z => nomatch z) (fun b o _ hb _ e n => u.keep b o e n hb (by simp)) (fun b o _ hb _ e n => u.slot b o e n hb (by simp)) (fun b o _ e n => u.free b o e n (by simp)) (fun b o _ e => u.there b o e (by simp)) u.tups u.frzs u.tbls (fun m' hm => by
    obtain ⟨o', es', ep', ho', r'⟩ := hm
    rw [ho] at ho'; cases ho'
    exact ⟨_, es', ep', hL, r'⟩) hok I.bare
/-- behind a call (or a comprehension's block): the slots of this frame may have changed too, the records at ch may have turned -/
theorem Inv.call {g' : Array GenState} {t' : Nat} {d' : Drawn} {ch : List Addr} (I : Inv X pins σ H s) (u : Un (frs X.stack) ch H H' s.heap h') (hok : HOk X.prog X.w H' h') (hg : AllBare g')
    (hch : ∀ b ∈ ch, (b ∈ X.ex ∨ X.s₀.heap.objs.size ≤ b) ∧ b ≠ X.env.locals ∧ (∀ x c, X.env.cells.lookup x = some c → c ≠ b) ∧ ∀ p ∈ X.pn ++ pins, p.1 ≠ b) :
    Inv X pins σ H' { s with heap := h', gens := g', drawn := d', toks := t' } := by
  obtain ⟨m, ⟨o, es, ep, ho, r⟩, _⟩ := id I.loc
  obtain ⟨sl, hL⟩ := u.any ho I.free fun z => (hch _ z).2.1 rfl
  exact I.step (ch := ch) hch (fun b o hL hb hc e n => u.keep b o e n (fun z => (List.mem_cons.mp (I.stkSub b z)).elim hL hb) hc) (fun b o _ _ hc e n => u.any e n hc) (fun b o hc e n => u.free b o e n hc) (fun b o hc e => u.there b o e hc) u.tups u.frzs u.tbls (fun m' hm => by
    obtain ⟨o', es', ep', ho', r'⟩ := hm
    rw [ho] at ho'; cases ho'
    exact ⟨_, es', ep', hL, r'⟩) hok hg
/-- an untracked record of ours (an iterator) has turned -/
theorem Inv.turned {t' : Nat} {it : Addr} (I : Inv X pins σ H s) (k : ∀ b o, b ≠ it → s.heap.get? b = some o → h'.get? b = some o) (hn : H it = none) (hL : it ≠ X.env.locals)
    (h1 : it ∈ X.ex ∨ X.s₀.heap.objs.size ≤ it) (h2 : ∀ x c, X.env.cells.lookup x = some c → c ≠ it) (h3 : ∀ p ∈ X.pn ++ pins, p.1 ≠ it) : Inv X pins σ H { s with heap := h', toks := t' } := by
  have nit : ∀ b u, H b = some u → b ≠ it := fun b u e z => by rw [z, hn] at e; cases e
  refine I.step (g' := s.gens) (d' := s.drawn) (ch := [it]) (fun b hb => ?_) (fun b o _ _ hc e _ => k b o (fun z => hc (by simp [z])) e) (fun b o _ _ hc e _ => ⟨o.slots, k b o (fun z => hc (by simp [z])) e⟩) (fun _ _ _ _ n => n)
    (fun b o hc e => ⟨o, k b o (fun z => hc (by simp [z])) e⟩) (fun _ _ e => e) (fun _ _ _ e => e) (fun b ps e => ⟨#[], by rw [e]; simp⟩) (fun m hm => ?_) (fun b u e => ?_) I.bare
  · have e : b = it := by simpa using hb
    subst e
    exact ⟨h1, hL, h2, h3⟩
  · obtain ⟨o, es, ep, ho, r⟩ := hm
    exact ⟨o, es, ep, k _ o (Ne.symm hL) ho, r⟩
  · refine (I.hok b u e).stay (fun c v hc q => k c v ?_ q) (fun _ q => q) fun _ _ q => q
    rcases hc with z | z
    · rw [z]; exact nit b u e
    · exact nit c _ z
theorem Inv.tok (I : Inv X pins σ H s) (t : Nat) : Inv X pins σ H { s with toks := t } := I.un (h' := s.heap) (t' := t) Un.refl I.hok
/-- all objects kept -/
theorem Inv.kept {t' : Nat} (I : Inv X pins σ H s) (k : ∀ b u, s.heap.get? b = some u → h'.get? b = some u) : Inv X pins σ H { s with heap := h', toks := t' } := I.un (Un.kept k) (I.hok.kept k)
/-- a new object laid and tracked -/
theorem Inv.laid {a : Addr} {o : HO} {t' : Nat} (I : Inv X pins σ H s) (k : ∀ b u, s.heap.get? b = some u → h'.get? b = some u) (hp : s.heap.objs.size ≤ a) (new : ObjOk X.prog X.w (upd H a o) h' a o) :
    Inv X pins σ (upd H a o) { s with heap := h', toks := t' } := I.un (Un.laid k hp (I.hok.fresh hp)) (I.hok.laid k hp new)
/-- an object written -/
theorem Inv.write {x e : Addr} {o : HO} {t' : Nat} (I : Inv X pins σ H s) (mu : Mut (H x)) (he : e = x ∨ H e = some (.own x)) (k : ∀ b u, b ≠ e → s.heap.get? b = some u → h'.get? b = some u) (heo : ∃ u, h'.get? e = some u)
    (new : ObjOk X.prog X.w (upd H x o) h' x o) : Inv X pins σ (upd H x o) { s with heap := h', toks := t' } := I.un (Un.write mu he k heo) (I.hok.write mu he k heo new)
/-- forgetting slots, pins -/
theorem Inv.weak {σ' : List (Option V)} (I : Inv X pins σ H s) (hl : σ'.length = σ.length) (w : ∀ (i : Nat) v, σ'[i]? = some (some v) → σ[i]? = some (some v)) : Inv X pins σ' H s :=
  ⟨I.ok, I.os, I.bare, I.base, let ⟨m, hn, hl'⟩ := I.loc; ⟨m, hn, fun i x v e1 e2 e3 => hl' i x v e1 (w i v e2) e3⟩, I.cell, I.free, I.freeC, I.pin, I.hok, hl.trans I.len⟩
theorem Inv.pins_of {pins' : List (Addr × Obj)} (I : Inv X pins σ H s) (h : ∀ p ∈ pins', s.heap.get? p.1 = some p.2 ∧ H p.1 = none ∧ p.1 ≠ X.env.locals ∧ p.1 ∉ X.fs ∧ ∀ v, p.2.data ≠ .cell v) : Inv X pins' σ H s :=
  ⟨I.ok, I.os, I.bare, I.base, I.loc, I.cell, I.free, I.freeC, fun p hp => (List.mem_append.mp hp).elim (fun z => I.pin p (List.mem_append_left _ z)) (h p), I.hok, I.len⟩

theorem nodup_ix {N : List Str} (hN : N.Nodup) {i j : Nat} {x : Str} (a : N[i]? = some x) (b : N[j]? = some x) : i = j := by
  obtain ⟨h1, e1⟩ := List.getElem?_eq_some_iff.mp a
  obtain ⟨h2, e2⟩ := List.getElem?_eq_some_iff.mp b
  exact (List.getElem_inj hN).mp (e1.trans e2.symm)

/-- a name is stored; what changed -/
theorem store_ok2 {M : Model} {A : Around} {E : Value → Shared → Prop} {i : Nat} {x : Str} {v : V} {u : Value} {Q : Unit → Shared → Prop} (I : Inv X pins σ H s) (hN : X.N.Nodup) (hi : X.N[i]? = some x) (hx : Loc X.env.scope x) (r : RelV v u)
    (h : ∀ s', Inv X pins (σ.set i (some v)) H s' → (∃ a, Heap.SameBut a s.heap s'.heap ∧ (a = X.env.locals ∨ X.env.cells.lookup x = some a)) → Q () s') (hf : X.fn x = true ∨ X.env.scope.names.lookup x = some .local := by first | exact .inl rfl | exact .inr rfl | assumption) : wpAny M A (storeName X.env x u) Q E s := by
  obtain ⟨m, hn, hl⟩ := id I.loc
  have hcls : (X.env.scope.kind == .class || (X.env.scope.kind == .module && X.env.locals != X.env.globals)) = false := by rw [I.ok.kind]; rfl
  have hiσ : i < σ.length := by rw [I.len]; exact (List.getElem?_eq_some_iff.mp hi).1
  have cne := I.cne
  have tracked : ∀ {a : Addr} {h' : Heap}, (∃ o, s.heap.get? a = some o ∧ H a = none) → Heap.SameBut a s.heap h' → HOk X.prog X.w H h' := fun {a h'} ha hs b ob e => by
    obtain ⟨_, _, hfree⟩ := ha
    refine (I.hok b ob e).stay (fun c w' hc q => (hs.2 c ?_).trans q) (fun _ q => q) fun _ _ q => q
    rintro rfl
    rcases hc with rfl | hc
    · rw [hfree] at e; cases e
    · rw [hfree] at hc; cases hc
  rcases hx with hk | hk
  · refine wpAny_storeName_local hk hn (fun h' hn' hs => ?_) hcls
    obtain ⟨oL, _, _, hoL, _⟩ := id hn
    refine h _ ⟨I.ok, I.os, I.bare, ⟨fun b o e n hb hx => ?_, fun b o e n hb hx => ?_, I.base.free, fun b o e hx => ?_, I.base.tups, I.base.frzs, I.base.tbls⟩, ⟨_, hn', fun j y v' e1 e2 e3 => ?_⟩, fun y c e => ?_, I.free, I.freeC, fun p hp => ?_, tracked ⟨oL, hoL, I.free⟩ hs, by simpa using I.len⟩ ⟨_, hs, .inl rfl⟩
    · exact (hs.2 b (Nat.ne_of_lt (Nat.lt_of_lt_of_le (Heap.lt_size e) I.ok.above))).trans (I.base.keep b o e n hb hx)
    · obtain ⟨sl, e1⟩ := I.base.slot b o e n hb hx
      exact ⟨sl, (hs.2 b (Nat.ne_of_lt (Nat.lt_of_lt_of_le (Heap.lt_size e) I.ok.above))).trans e1⟩
    · obtain ⟨o', e1⟩ := I.base.there b o e hx
      exact ⟨o', (hs.2 b (Nat.ne_of_lt (Nat.lt_of_lt_of_le (Heap.lt_size e) I.ok.above))).trans e1⟩
    · by_cases hj : j = i
      · subst hj
        rw [hi] at e1; cases e1
        rw [List.getElem?_set_self hiσ] at e2
        cases e2
        exact ⟨u, r, .inl ⟨hk, by simp⟩⟩
      · rw [List.getElem?_set_ne (Ne.symm hj)] at e2
        obtain ⟨u', r', q⟩ := hl j y v' e1 e2 e3
        refine ⟨u', r', ?_⟩
        rcases q with ⟨k, e⟩ | ⟨k, c, e, z⟩
        · refine .inl ⟨k, ?_⟩
          have : y ≠ x := fun e => hj (nodup_ix hN e1 (e ▸ hi))
          simp [this, e]
        · exact .inr ⟨k, c, e, z.sameBut hs (cne y c e)⟩
    · obtain ⟨w', z⟩ := I.cell y c e
      exact ⟨w', z.sameBut hs (cne y c e)⟩
    · obtain ⟨e, n, ne, nf, d⟩ := I.pin p hp
      exact ⟨(hs.2 p.1 ne).trans e, n, ne, nf, d⟩
  · have hfn : X.fn x = true := by
      rcases hf with z | z
      · exact z
      · rw [z] at hk; cases hk
    obtain ⟨c, hc⟩ := I.ok.has x (.inl hk)
    obtain ⟨w', z⟩ := I.cell x c hc
    refine wpAny_storeName_cell I.ok.kind hk hc z (fun h' hc' hs => ?_)
    obtain ⟨oc, hoc, hocd⟩ := id z
    refine h { s with heap := h' } ⟨I.ok, I.os, I.bare, ⟨fun b o e n hb hx => ?_, fun b o e n hb hx => ?_, I.base.free, fun b o e hx => ?_, I.base.tups, I.base.frzs, I.base.tbls⟩, ⟨m, hn.sameBut hs (Ne.symm (cne x c hc)), fun j y v' e1 e2 e3 => ?_⟩, fun y c' e => ?_, I.free, I.freeC, fun p hp => ?_, tracked ⟨oc, hoc, I.freeC x c hc⟩ hs, by simpa using I.len⟩ ⟨c, hs, .inr hc⟩
    · exact (hs.2 b (Nat.ne_of_lt (Nat.lt_of_lt_of_le (Heap.lt_size e) (I.ok.cab x c hfn hc)))).trans (I.base.keep b o e n hb hx)
    · obtain ⟨sl, e1⟩ := I.base.slot b o e n hb hx
      exact ⟨sl, (hs.2 b (Nat.ne_of_lt (Nat.lt_of_lt_of_le (Heap.lt_size e) (I.ok.cab x c hfn hc)))).trans e1⟩
    · obtain ⟨o', e1⟩ := I.base.there b o e hx
      exact ⟨o', (hs.2 b (Nat.ne_of_lt (Nat.lt_of_lt_of_le (Heap.lt_size e) (I.ok.cab x c hfn hc)))).trans e1⟩
    · by_cases hj : j = i
      · subst hj
        rw [hi] at e1; cases e1
        rw [List.getElem?_set_self hiσ] at e2
        cases e2
        exact ⟨u, r, .inr ⟨.inl hk, c, hc, hc'⟩⟩
      · rw [List.getElem?_set_ne (Ne.symm hj)] at e2
        obtain ⟨u', r', q⟩ := hl j y v' e1 e2 e3
        refine ⟨u', r', ?_⟩
        rcases q with q | ⟨k, c', e, z'⟩
        · exact .inl q
        · refine .inr ⟨k, c', e, z'.sameBut hs ?_⟩
          rintro rfl
          exact hj (nodup_ix hN e1 (I.ok.inj _ _ _ e hc ▸ hi))
    · by_cases hcc : c' = c
      · subst hcc; exact ⟨_, hc'⟩
      · obtain ⟨w2, z2⟩ := I.cell y c' e
        exact ⟨w2, z2.sameBut hs hcc⟩
    · obtain ⟨e, n, ne, nf, d⟩ := I.pin p hp
      refine ⟨(hs.2 p.1 ?_).trans e, n, ne, nf, d⟩
      intro q
      rw [q, hoc] at e
      have q' : oc = p.2 := Option.some.inj e
      exact d w' (by rw [← q']; exact hocd)
theorem store_ok {M : Model} {A : Around} {E : Value → Shared → Prop} {i : Nat} {x : Str} {v : V} {u : Value} {Q : Unit → Shared → Prop} (I : Inv X pins σ H s) (hN : X.N.Nodup) (hi : X.N[i]? = some x) (hx : Loc X.env.scope x) (r : RelV v u)
    (h : ∀ s', Inv X pins (σ.set i (some v)) H s' → Q () s') (hf : X.fn x = true ∨ X.env.scope.names.lookup x = some .local := by first | exact .inl rfl | exact .inr rfl | assumption) : wpAny M A (storeName X.env x u) Q E s :=
  store_ok2 I hN hi hx r (fun s' I' _ => h s' I') hf
/-- behind a call or a block, the state as it is -/
theorem Inv.call' {s' : Shared} {ch : List Addr} (I : Inv X pins σ H s) (ho : s'.os = s.os) (u : Un (frs X.stack) ch H H' s.heap s'.heap) (hok : HOk X.prog X.w H' s'.heap) (hg : AllBare s'.gens)
    (hch : ∀ b ∈ ch, (b ∈ X.ex ∨ X.s₀.heap.objs.size ≤ b) ∧ b ≠ X.env.locals ∧ (∀ x c, X.env.cells.lookup x = some c → c ≠ b) ∧ ∀ p ∈ X.pn ++ pins, p.1 ≠ b) : Inv X pins σ H' s' := by
  obtain ⟨h', g', d', t', o'⟩ := s'
  have e : o' = s.os := ho
  subst e
  exact I.call (g' := g') (t' := t') (d' := d') u hok hg hch
end

/-! ### the judgements -/
/-- an exception: its class, its own dict's address (where it has one), the abstract heap behind it -/
abbrev XK := Value → Option Addr → Hp → Prop
abbrev St := List (Option V)
abbrev VK := V → Hp → Prop
/-- an expression's reading; a test's; an argument list's -/
abbrev TE := St → Hp → VK → Prop
abbrev TT := St → Hp → (Bool → Hp → Prop) → Prop
abbrev TA := St → Hp → (List V → Hp → Prop) → Prop
/-- what is wanted behind a statement -/
structure Ends where
  nx : St → Hp → Prop
  rt : VK
  bk : St → Hp → Prop := fun _ _ => False
  ct : St → Hp → Prop := fun _ _ => False
abbrev TS := Ends → St → Hp → Prop

def EP (X : Cx) (pins : List (Addr × Obj)) (σ : St) (Q : VK) (u : Value) (s' : Shared) : Prop := ∃ v H', Inv X pins σ H' s' ∧ RelV v u ∧ Q v H'
def TP (X : Cx) (pins : List (Addr × Obj)) (σ : St) (Q : Bool → Hp → Prop) (b : Bool) (s' : Shared) : Prop := ∃ H', Inv X pins σ H' s' ∧ Q b H'
def AP (X : Cx) (pins : List (Addr × Obj)) (σ : St) (Q : List V → Hp → Prop) (us : List Value) (s' : Shared) : Prop := ∃ vs H', Inv X pins σ H' s' ∧ Vals vs us ∧ Q vs H'
def SP (X : Cx) (pins : List (Addr × Obj)) (D : Ends) (f : Flow) (s' : Shared) : Prop :=
  match f with
  | .next => ∃ σ' H', Inv X pins σ' H' s' ∧ D.nx σ' H'
  | .brk => ∃ σ' H', Inv X pins σ' H' s' ∧ D.bk σ' H'
  | .cont => ∃ σ' H', Inv X pins σ' H' s' ∧ D.ct σ' H'
  | .ret u => ∃ v σ' H', Inv X pins σ' H' s' ∧ RelV v u ∧ D.rt v H'

def PE (X : Cx) (e : Expr) (t : TE) : Prop :=
  ∀ (pins : List (Addr × Obj)) (s : Shared) (σ : St) (H : Hp) (Q : VK), Inv X pins σ H s → t σ H Q → wpAny (model X.prog X.w) X.A (eval e X.env) (EP X pins σ Q) X.xe s
def PT (X : Cx) (e : Expr) (t : TT) : Prop :=
  ∀ (pins : List (Addr × Obj)) (s : Shared) (σ : St) (H : Hp) (Q : Bool → Hp → Prop), Inv X pins σ H s → t σ H Q → wpAny (model X.prog X.w) X.A (isTrue e X.env (eval e X.env)) (TP X pins σ Q) X.xe s
/-- a test whatever its 'whole' is (and, or) -/
def PW (X : Cx) (e : Expr) (t : TT) : Prop :=
  ∀ (whole : Sem Value) (pins : List (Addr × Obj)) (s : Shared) (σ : St) (H : Hp) (Q : Bool → Hp → Prop), Inv X pins σ H s → t σ H Q → wpAny (model X.prog X.w) X.A (isTrue e X.env whole) (TP X pins σ Q) X.xe s
theorem PW.pt {X : Cx} {e : Expr} {t : TT} (h : PW X e t) : PT X e t := h _
/-- an argument list (no star), from the left -/
def PA (X : Cx) (es : List Expr) (t : TA) : Prop :=
  ∀ (pos : Pos) (pins : List (Addr × Obj)) (s : Shared) (σ : St) (H : Hp) (Q : List V → Hp → Prop), Inv X pins σ H s → t σ H Q → wpAny (model X.prog X.w) X.A (spliced (backTo pos (starEach es X.env))) (AP X pins σ Q) X.xe s
def PS (X : Cx) (st : Stmt) (t : TS) : Prop :=
  ∀ (pins : List (Addr × Obj)) (s : Shared) (σ : St) (H : Hp) (D : Ends), Inv X pins σ H s → t D σ H → wpAny (model X.prog X.w) X.A (exec st X.env) (SP X pins D) X.xe s
def PSs (X : Cx) (st : List Stmt) (t : TS) : Prop :=
  ∀ (pins : List (Addr × Obj)) (s : Shared) (σ : St) (H : Hp) (D : Ends), Inv X pins σ H s → t D σ H → wpAny (model X.prog X.w) X.A (execs st X.env) (SP X pins D) X.xe s
/-- weaken the end -/
theorem thn {α : Type} {t : Sem α} {Q Q' : α → Shared → Prop} {M : Model} {A : Around} {E : Value → Shared → Prop} {s : Shared} (h : wpAny M A t Q E s) (hQ : ∀ a s, Q a s → Q' a s) : wpAny M A t Q' E s := wpAny_mono h hQ fun _ _ x => x
end L2

namespace L2
open PySem PySem.Spec PyProof.Rows
section
variable {X : Cx}

/-- two expressions in a row -/
theorem bin {a b : Expr} {ta tb : TE} (ha : PE X a ta) (hb : PE X b tb) {pins : List (Addr × Obj)} {s : Shared} {σ : St} {H : Hp} {R : V → V → Hp → Prop} (I : Inv X pins σ H s) (h : ta σ H fun x H1 => tb σ H1 fun y H2 => R x y H2)
    {α : Type} {Q : α → Shared → Prop} {f : Value → Value → Sem α}
    (hf : ∀ v u s2 x y H2, Inv X pins σ H2 s2 → RelV x v → RelV y u → R x y H2 → wpAny (model X.prog X.w) X.A (f v u) Q X.xe s2) :
    wpAny (model X.prog X.w) X.A (eval a X.env) (fun v s₁ => wpAny (model X.prog X.w) X.A (eval b X.env) (fun u s₂ => wpAny (model X.prog X.w) X.A (f v u) Q X.xe s₂) X.xe s₁) X.xe s := by
  refine thn (ha pins s σ H _ I h) fun v s1 ⟨x, H1, I1, r1, q1⟩ => ?_
  refine thn (hb pins s1 σ H1 _ I1 q1) fun u s2 ⟨y, H2, I2, r2, q2⟩ => ?_
  exact hf v u s2 x y H2 I2 r1 r2 q2

/-! ### names and constants -/
def tVar (i : Nat) : TE := fun σ H Q => ∃ v, σ[i]? = some (some v) ∧ Q v H
def tC (v : V) : TE := fun _ H Q => Q v H
theorem pe_var {i : Nat} {x : Str} {pos : Pos} (hN : X.N[i]? = some x) (hv : Vis X.env.scope x) (hd : (x == ("__debug__" : Str)) = false := by decide) (hcd : (x == ("__classdict__" : Str)) = false := by decide) : PE X (.Name x pos) (tVar i) := by
  intro pins s σ H Q I h
  obtain ⟨v, e, h⟩ := h
  obtain ⟨m, hn, hl⟩ := I.loc
  obtain ⟨u, r, l⟩ := hl i x v hN e hv
  have fin : EP X pins σ Q u s := ⟨v, H, I, r, h⟩
  rcases l with ⟨hk, hm⟩ | ⟨hk, c, hc, hcell⟩
  · exact wpAny_Name (wpAny_loadName_local I.ok.kind hk hn hm fin) hd
  · rcases hk with hk | hk
    · exact wpAny_Name (wpAny_loadName_cell I.ok.kind hk hc hcell fin) hd
    · exact wpAny_Name (wpAny_loadName_free I.ok.kind hk hc hcell fin hcd) hd
theorem pe_int {i j pos} : PE X (.Constant (.int i) j pos) (tC (.int i)) := fun _ _ _ H _ I h => wpAny_Constant_int ⟨.int i, H, I.tok _, ⟨_, rfl⟩, h⟩
theorem pe_bl {b j pos} : PE X (.Constant (.bool b) j pos) (tC (.bl b)) := fun _ _ _ H _ I h => Constant_bool ⟨.bl b, H, I, rfl, h⟩
theorem pe_non {j pos} : PE X (.Constant .none j pos) (tC .non) := fun _ _ _ H _ I h => Constant_none ⟨.non, H, I, rfl, h⟩
theorem pe_str {x j pos} : PE X (.Constant (.str x) j pos) (tC (.str x)) := fun _ _ _ H _ I h => Calls.Constant_str ⟨.str x, H, I.tok _, ⟨_, rfl⟩, h⟩

/-- a global name of the def -/
def Gl (X : Cx) (x : Str) : Prop := X.env.kindOf x = some .globalImplicit
theorem ld_glob {E : Value → Shared → Prop} {pins : List (Addr × Obj)} {s : Shared} {σ : St} {H : Hp} {x : Str} {u : Value} {pos : Pos} {Q : Value → Shared → Prop} (I : Inv X pins σ H s) (hg : Gl X x) (hm : X.mg x = some u) (h : Q u s)
    (hd : (x == ("__debug__" : Str)) = false := by decide) : wpAny (model X.prog X.w) X.A (eval (.Name x pos) X.env) Q E s :=
  Calls.Name_function_global I.ok.kind hg (Calls.loadGlobal_global (by rw [I.ok.glob]; exact I.mod.glob.keeps I.bk) hm h) hd
theorem ld_blt {E : Value → Shared → Prop} {pins : List (Addr × Obj)} {s : Shared} {σ : St} {H : Hp} {x : Str} {u : Value} {pos : Pos} {Q : Value → Shared → Prop} (I : Inv X pins σ H s) (hg : Gl X x) (hm : X.mg x = none) (hv : bootBuiltins x = some u) (h : Q u s)
    (hn : x ≠ "__name__" := by decide) (hd : (x == ("__debug__" : Str)) = false := by decide) : wpAny (model X.prog X.w) X.A (eval (.Name x pos) X.env) Q E s := by
  obtain ⟨mb, h1, h2⟩ := I.mod.blt
  exact Calls.Name_function_global I.ok.kind hg (Calls.loadGlobal_builtin (by rw [I.ok.glob]; exact I.mod.glob.keeps I.bk) hm (by rw [I.ok.blt]; exact h1.keeps I.bk) ((h2 x hn).trans hv) h) hd
/-- a module's constant, a class, a function, as a value -/
theorem pe_glob {x : Str} {v : V} {u : Value} {pos : Pos} (hg : Gl X x) (hm : X.mg x = some u) (r : RelV v u) (hd : (x == ("__debug__" : Str)) = false := by decide) : PE X (.Name x pos) (tC v) :=
  fun _ _ _ H _ I h => ld_glob I hg hm ⟨v, H, I, r, h⟩ hd
theorem pe_bltn {x : Str} {v : V} {u : Value} {pos : Pos} (hg : Gl X x) (hm : X.mg x = none) (hv : bootBuiltins x = some u) (r : RelV v u) (hn : x ≠ "__name__" := by decide) (hd : (x == ("__debug__" : Str)) = false := by decide) : PE X (.Name x pos) (tC v) :=
  fun _ _ _ H _ I h => ld_blt I hg hm hv ⟨v, H, I, r, h⟩ hn hd

variable {a b : Expr} {ta tb : TE} {pos : Pos}
/-! ### comparisons -/
def PC (X : Cx) (op : CmpOp) (a b : Expr) (t : TE) : Prop :=
  ∀ (pins : List (Addr × Obj)) (s : Shared) (σ : St) (H : Hp) (Q : VK), Inv X pins σ H s → t σ H Q →
    wpAny (model X.prog X.w) X.A (eval a X.env) (fun v s₁ => wpAny (model X.prog X.w) X.A (eval b X.env) (fun u s₂ => wpAny (model X.prog X.w) X.A (compareOp op v u) (EP X pins σ Q) X.xe s₂) X.xe s₁) X.xe s
/-- a comparison as a value, as a test -/
def tB (t : TE) : TT := fun σ H Q => t σ H fun x H1 => ∃ c, x = .bl c ∧ Q c H1
theorem pt_cmp {op : CmpOp} {t : TE} (h : PC X op a b t) (h1 : behindInMarks op b = false := by first | exact nobehind _ (by decide) (by decide) | rfl) : PT X (.Compare a [op] [b] pos) (tB t) := by
  intro pins s σ H Q I hw
  refine wpAny_isTrue_Compare1 (thn (h pins s σ H _ I hw) fun v s1 h1 => thn h1 fun u s2 h2 => thn h2 fun c s3 ⟨x, H1, I1, r1, q1⟩ => ?_) h1
  obtain ⟨d, rfl, q⟩ := q1
  cases r1
  exact wpAny_truthy_bool ⟨H1, I1, q⟩
/-- an expression whose value is a bool, as a test -/
theorem pt_val {e : Expr} {t : TE} (h : PE X e t) (he : ∀ whole, isTrue e X.env whole = (do let v ← whole; standAt e.pos; holding [v] (truthy v)) := by intro _; rfl) : PT X e (tB t) := by
  intro pins s σ H Q I hw
  refine isTrue_plain (thn (h pins s σ H _ I hw) fun v s1 ⟨x, H1, I1, r1, q1⟩ => ?_) (he _)
  obtain ⟨d, rfl, q⟩ := q1
  cases r1
  exact wpAny_truthy_bool ⟨H1, I1, q⟩

/-! ### and, or, not -/
variable {tA tB' : TT} {rest : List Expr}
def tAnd (t u : TT) : TT := fun σ H Q => t σ H fun c H1 => if c = true then u σ H1 Q else Q false H1
def tOr (t u : TT) : TT := fun σ H Q => t σ H fun c H1 => if c = true then Q true H1 else u σ H1 Q
def tNot (t : TT) : TT := fun σ H Q => t σ H fun c H1 => Q (!c) H1
theorem pw_and1 (ha : PT X a tA) : PW X (.BoolOp .And [a] pos) tA := by
  intro wh pins s σ H Q I h
  refine isTrue_and (thn (ha pins s σ H Q I h) fun c s1 e => ?_)
  cases c with
  | true => exact isTrue_and_nil e
  | false => exact e
theorem pw_or1 (ha : PT X a tA) : PW X (.BoolOp .Or [a] pos) tA := by
  intro wh pins s σ H Q I h
  refine isTrue_or (thn (ha pins s σ H Q I h) fun c s1 e => ?_)
  cases c with
  | false => exact isTrue_or_nil e
  | true => exact e
theorem pw_and (ha : PT X a tA) (hb : PW X (.BoolOp .And (b :: rest) pos) tB') : PW X (.BoolOp .And (a :: b :: rest) pos) (tAnd tA tB') := by
  intro wh pins s σ H Q I h
  refine isTrue_and (thn (ha pins s σ H _ I h) fun c s1 ⟨H1, I1, q1⟩ => ?_)
  cases c with
  | true => exact hb wh pins s1 σ H1 Q I1 q1
  | false => exact ⟨H1, I1, q1⟩
theorem pw_or (ha : PT X a tA) (hb : PW X (.BoolOp .Or (b :: rest) pos) tB') : PW X (.BoolOp .Or (a :: b :: rest) pos) (tOr tA tB') := by
  intro wh pins s σ H Q I h
  refine isTrue_or (thn (ha pins s σ H _ I h) fun c s1 ⟨H1, I1, q1⟩ => ?_)
  cases c with
  | true => exact ⟨H1, I1, q1⟩
  | false => exact hb wh pins s1 σ H1 Q I1 q1
theorem pt_not (ha : PT X a tA) : PT X (.UnaryOp .Not a pos) (tNot tA) := by
  intro pins s σ H Q I h
  exact isTrue_not (ha pins s σ H (fun c H1 => Q (!c) H1) I h)
/-- .. as values (bools) -/
def tAndV (ta tb : TE) : TE := fun σ H Q => ta σ H fun x H1 => ∃ c, x = .bl c ∧ if c = true then tb σ H1 Q else Q (.bl false) H1
def tOrV (ta tb : TE) : TE := fun σ H Q => ta σ H fun x H1 => ∃ c, x = .bl c ∧ if c = true then Q (.bl true) H1 else tb σ H1 Q
def tNotV (ta : TE) : TE := fun σ H Q => ta σ H fun x H1 => ∃ c, x = .bl c ∧ Q (.bl (!c)) H1
theorem pe_one {op} {t : TE} (h : PE X a t) : PE X (.BoolOp op [a] pos) t := fun pins s σ H Q I hw => BoolOp_one (h pins s σ H Q I hw)
theorem pe_and (ha : PE X a ta) (hb : PE X (.BoolOp .And (b :: rest) pos) tb) : PE X (.BoolOp .And (a :: b :: rest) pos) (tAndV ta tb) := by
  intro pins s σ H Q I h
  refine BoolOp_and (thn (ha pins s σ H _ I h) fun v s1 ⟨x, H1, I1, r1, q1⟩ => ?_)
  obtain ⟨c, rfl, q1⟩ := q1
  cases r1
  refine wpAny_truthy_bool ?_
  cases c with
  | true => exact hb pins s1 σ H1 Q I1 q1
  | false => exact ⟨.bl false, H1, I1, rfl, q1⟩
/-- a if t else b -/
def tIf (t : TT) (ta tb : TE) : TE := fun σ H Q => t σ H fun c H1 => if c = true then ta σ H1 Q else tb σ H1 Q
theorem pe_ifExp {c : Expr} (hc : PT X c tA) (ha : PE X a ta) (hb : PE X b tb) : PE X (.IfExp c a b pos) (tIf tA ta tb) := by
  intro pins s σ H Q I h
  refine wpAny_IfExp (thn (hc pins s σ H _ I h) fun d s1 ⟨H1, I1, q1⟩ => ?_)
  cases d with
  | true => exact ha pins s1 σ H1 Q I1 q1
  | false => exact hb pins s1 σ H1 Q I1 q1
end
end L2

namespace L2
open PySem PySem.Spec PyProof.Rows

/-! ### a list, a tuple that is read: tracked, frozen, or an object of the module -/
def SqL (K : PySem.W.Frag) (H : Hp) (a : Addr) (xs : List V) : Prop :=
  Rd H a (.lst xs) ∨
    ∃ (o : Obj) (its : Array Value) (n : Nat), K.lookup a = some o ∧ o.cls = .type "list" ∧ o.dict = none ∧ o.data = .seq its n ∧ its.size ≤ sizeLine ∧ Vals xs its.toList
def SqT (K : PySem.W.Frag) (H : Hp) (a : Addr) (xs : List V) : Prop :=
  Rd H a (.tup xs) ∨
    ∃ (o : Obj) (its : Array Value) (n : Nat), K.lookup a = some o ∧ o.cls = .type "tuple" ∧ o.data = .seq its n ∧ its.size ≤ sizeLine ∧ Vals xs its.toList
def absV : Value → Option V
  | .none => some .non
  | .bool b => some (.bl b)
  | .int i _ => some (.int i)
  | .str x _ => some (.str x)
  | .bytes b _ => some (.byt b)
  | .float b _ => some (.flt b)
  | .ref a => some (.ref a)
  | .type n => some (.ty n)
  | _ => none
theorem RelV.abs {x : V} {u : Value} (r : RelV x u) : absV u = some x := by
  cases x with
  | non => cases r; rfl
  | bl _ => cases r; rfl
  | int _ => obtain ⟨t, rfl⟩ := r; rfl
  | str _ => obtain ⟨t, rfl⟩ := r; rfl
  | byt _ => obtain ⟨t, rfl⟩ := r; rfl
  | flt _ => obtain ⟨t, rfl⟩ := r; rfl
  | ref _ => cases r; rfl
  | ty _ => cases r; rfl
theorem RelV.inj {x y : V} {u : Value} (r : RelV x u) (q : RelV y u) : x = y := Option.some.inj (r.abs.symm.trans q.abs)
theorem Vals.inj : ∀ {xs ys : List V} {us : List Value}, Vals xs us → Vals ys us → xs = ys
  | _, _, _, .nil, .nil => rfl
  | _, _, _, .cons r t, .cons r' t' => by rw [r.inj r', Vals.inj t t']
section
variable {X : Cx} {pins : List (Addr × Obj)} {σ : St} {H : Hp} {s : Shared} {a : Addr} {xs ys : List V}
theorem SqL.of {K : PySem.W.Frag} (h : H a = some (.lst xs)) : SqL K H a xs := .inl (.inl h)
theorem SqT.of {K : PySem.W.Frag} (h : H a = some (.tup xs)) : SqT K H a xs := .inl (.inl h)
theorem Inv.list (I : Inv X pins σ H s) (h : SqL X.K H a xs) : ∃ its : List Value, Vals xs its ∧ PlainL s.heap a its.toArray ∧ xs.length ≤ sizeLine := by
  rcases h with h | ⟨o, its, n, hk, hc, hd, hs, hz, r⟩
  · obtain ⟨z, its, n, r, e⟩ := h.ok I.hok
    exact ⟨its, r, ⟨_, n, e, rfl, rfl, rfl⟩, z⟩
  · refine ⟨its.toList, r, ⟨o, n, I.kIn a o hk, hc, hd, by simpa using hs⟩, ?_⟩
    have e := r.length
    simp only [Array.length_toList] at e
    omega
theorem Inv.tuple (I : Inv X pins σ H s) (h : SqT X.K H a xs) : ∃ its : List Value, Vals xs its ∧ IsTup s.heap a its.toArray ∧ xs.length ≤ sizeLine := by
  rcases h with h | ⟨o, its, n, hk, hc, hs, hz, r⟩
  · obtain ⟨z, its, r, p⟩ := h.ok I.hok
    exact ⟨its, r, p, z⟩
  · refine ⟨its.toList, r, ⟨o, I.kIn a o hk, hc, n, by simpa using hs⟩, ?_⟩
    have e := r.length
    simp only [Array.length_toList] at e
    omega
theorem Inv.list_inj (I : Inv X pins σ H s) (h : SqL X.K H a xs) (h' : SqL X.K H a ys) : xs = ys := by
  obtain ⟨its, r, ⟨o, n, e, _, _, d⟩, _⟩ := I.list h
  obtain ⟨its', r', ⟨o', n', e', _, _, d'⟩, _⟩ := I.list h'
  rw [e] at e'; cases e'
  rw [d] at d'
  injection d' with d1 _
  have : its = its' := by simpa using congrArg Array.toList d1
  subst this
  exact r.inj r'
end

/-! ### another wish about exceptions -/
abbrev Cx.wish (X : Cx) (E : Value → Shared → Prop) : Cx := { X with xe := E }
/-- no exception leaves -/
abbrev Cx.nox (X : Cx) : Cx := X.wish fun _ _ => False
theorem Cx.Ok.wish {X : Cx} (ok : X.Ok) (E : Value → Shared → Prop) : (X.wish E).Ok :=
  ⟨ok.mod, ok.kind, ok.glob, ok.blt, ok.above, ok.inj, ok.has, ok.cab, ok.hd, ok.frames, ok.stk, ok.exf, ok.bs, ok.bsz, ok.noex, ok.exfs, ok.funs, ok.frf⟩
theorem Cx.Ok.unwish {X : Cx} {E : Value → Shared → Prop} (ok : (X.wish E).Ok) : X.Ok :=
  ⟨ok.mod, ok.kind, ok.glob, ok.blt, ok.above, ok.inj, ok.has, ok.cab, ok.hd, ok.frames, ok.stk, ok.exf, ok.bs, ok.bsz, ok.noex, ok.exfs, ok.funs, ok.frf⟩
section
variable {X : Cx} {pins : List (Addr × Obj)} {σ : St} {H : Hp} {s : Shared} {E : Value → Shared → Prop}
theorem Inv.wish (I : Inv X pins σ H s) (E : Value → Shared → Prop) : Inv (X.wish E) pins σ H s := ⟨I.ok.wish E, I.os, I.bare, I.base, I.loc, I.cell, I.free, I.freeC, I.pin, I.hok, I.len⟩
theorem Inv.unwish (I : Inv (X.wish E) pins σ H s) : Inv X pins σ H s := ⟨I.ok.unwish, I.os, I.bare, I.base, I.loc, I.cell, I.free, I.freeC, I.pin, I.hok, I.len⟩
theorem SP.unwish {D : Ends} {f : Flow} {s' : Shared} (h : SP (X.wish E) pins D f s') : SP X pins D f s' := by
  cases f with
  | next => obtain ⟨σ', H', I, q⟩ := h; exact ⟨σ', H', I.unwish, q⟩
  | brk => obtain ⟨σ', H', I, q⟩ := h; exact ⟨σ', H', I.unwish, q⟩
  | cont => obtain ⟨σ', H', I, q⟩ := h; exact ⟨σ', H', I.unwish, q⟩
  | ret u => obtain ⟨v, σ', H', I, r, q⟩ := h; exact ⟨v, σ', H', I.unwish, r, q⟩
theorem PE.nox {e : Expr} {t : TE} (h : PE X.nox e t) : PE X e t := fun pins s σ H Q I hw =>
  wpAny_mono (h pins s σ H Q (I.wish _) hw) (fun _ _ ⟨v, H', I', r, q⟩ => ⟨v, H', I'.unwish, r, q⟩) fun _ _ z => False.elim z
theorem PT.nox {e : Expr} {t : TT} (h : PT X.nox e t) : PT X e t := fun pins s σ H Q I hw =>
  wpAny_mono (h pins s σ H Q (I.wish _) hw) (fun _ _ ⟨H', I', q⟩ => ⟨H', I'.unwish, q⟩) fun _ _ z => False.elim z
theorem PSs.nox {st : List Stmt} {t : TS} (h : PSs X.nox st t) : PSs X st t := fun pins s σ H D I hw =>
  wpAny_mono (h pins s σ H D (I.wish _) hw) (fun _ _ q => q.unwish) fun _ _ z => False.elim z
end

/-! ### blocks and small statements -/
section
variable {X : Cx} {st : Stmt} {rest : List Stmt} {t u : TS} {e : Expr} {te : TE} {pos : Pos}
def tNext : TS := fun D σ H => D.nx σ H
def tSeq (t u : TS) : TS := fun D σ H => t { D with nx := u D } σ H
theorem pss_nil : PSs X [] tNext := fun _ _ σ H _ I h => wpAny_execs_nil ⟨σ, H, I, h⟩
theorem pss_cons (h1 : PS X st t) (h2 : PSs X rest u) : PSs X (st :: rest) (tSeq t u) := by
  intro pins s σ H D I h
  refine wpAny_execs_cons (thn (h1 pins s σ H { D with nx := u D } I h) fun f s1 q => ?_)
  cases f with
  | next =>
    obtain ⟨σ', H', I', q⟩ := q
    exact h2 pins s1 σ' H' D I' q
  | ret v => exact q
  | brk => exact q
  | cont => exact q
theorem pss_one (h1 : PS X st t) : PSs X [st] t := by
  intro pins s σ H D I h
  refine wpAny_execs_cons (thn (h1 pins s σ H D I h) fun f s1 q => ?_)
  cases f with
  | next => exact wpAny_execs_nil q
  | ret v => exact q
  | brk => exact q
  | cont => exact q
/-- in a def's body nothing is shown -/
theorem Inv.quiet {pins : List (Addr × Obj)} {σ : St} {H : Hp} {s : Shared} (I : Inv X pins σ H s) : interactive X.env = false := by simp [interactive, I.ok.kind]
/-- an expression whose value is dropped -/
def tDrop (te : TE) : TS := fun D σ H => te σ H fun _ H1 => D.nx σ H1
theorem ps_expr (he : PE X e te) (hs : swapsWith e none pos.line X.env = pure false := by rfl) : PS X (.Expr e pos) (tDrop te) := by
  intro pins s σ H D I h
  exact wpAny_Expr_any (thn (he pins s σ H _ I h) fun v s1 ⟨x, H1, I1, r1, q1⟩ => ⟨σ, H1, I1, q1⟩) I.quiet hs
def tRet (te : TE) : TS := fun D σ H => te σ H D.rt
theorem ps_ret (he : PE X e te) : PS X (.Return (some e) pos) (tRet te) := by
  intro pins s σ H D I h
  exact wpAny_Return_some (thn (he pins s σ H _ I h) fun v s1 ⟨x, H1, I1, r1, q1⟩ => ⟨x, σ, H1, I1, r1, q1⟩)
def tRetN : TS := fun D _ H => D.rt .non H
def tIfS (c : TT) (t u : TS) : TS := fun D σ H => c σ H fun b H1 => if b = true then t D σ H1 else u D σ H1
theorem ps_if {c : Expr} {a b : List Stmt} {tc : TT} (hc : PT X c tc) (ha : PSs X a t) (hb : PSs X b u) : PS X (.If c a b pos) (tIfS tc t u) := by
  intro pins s σ H D I h
  refine wpAny_If (thn (hc pins s σ H _ I h) fun d s1 ⟨H1, I1, q1⟩ => ?_)
  cases d with
  | true => exact ha pins s1 σ H1 D I1 q1
  | false => exact hb pins s1 σ H1 D I1 q1
end

/-! ### targets -/
abbrev TG := V → St → Hp → (St → Hp → Prop) → Prop
abbrev TGs := List V → St → Hp → (St → Hp → Prop) → Prop
def PG (X : Cx) (target : Expr) (t : TG) : Prop :=
  ∀ (pins : List (Addr × Obj)) (s : Shared) (σ : St) (H : Hp) (v : V) (u : Value) (Q : St → Hp → Prop), Inv X pins σ H s → RelV v u → t v σ H Q →
    wpAny (model X.prog X.w) X.A (assign target X.env u) (fun _ s' => ∃ σ' H', Inv X pins σ' H' s' ∧ Q σ' H') X.xe s
/-- several targets, one after another -/
def PGs (X : Cx) (ts : List Expr) (t : TGs) : Prop :=
  ∀ (pins : List (Addr × Obj)) (s : Shared) (σ : St) (H : Hp) (vs : List V) (us : List Value) (Q : St → Hp → Prop), Inv X pins σ H s → Vals vs us → t vs σ H Q →
    wpAny (model X.prog X.w) X.A (assignInOrder ((assignEach ts X.env).map (·.2)) us) (fun _ s' => ∃ σ' H', Inv X pins σ' H' s' ∧ Q σ' H') X.xe s
/-- o[i] = v, by values -/
abbrev TSet := V → V → V → Hp → (Hp → Prop) → Prop
def PSet (X : Cx) (t : TSet) : Prop :=
  ∀ (pins : List (Addr × Obj)) (s : Shared) (σ : St) (H : Hp) (o i v : V) (ov iv u : Value) (Q : Hp → Prop), Inv X pins σ H s → RelV o ov → RelV i iv → RelV v u → t o i v H Q →
    wpAny (model X.prog X.w) X.A (setItem ov iv u) (fun _ s' => ∃ H', Inv X pins σ H' s' ∧ Q H') X.xe s
section
variable {X : Cx} {pos : Pos}
def gName (i : Nat) : TG := fun v σ H Q => Q (σ.set i (some v)) H
theorem pg_name {i : Nat} {x : Str} (hN : X.N.Nodup) (hi : X.N[i]? = some x) (hx : Loc X.env.scope x) (hf : X.fn x = true ∨ X.env.scope.names.lookup x = some .local := by first | exact .inl rfl | exact .inr rfl | assumption) : PG X (.Name x pos) (gName i) := by
  intro pins s σ H v u Q I r h
  exact wpAny_assign_Name (store_ok I hN hi hx r (fun s' I' => ⟨_, H, I', h⟩) hf)
def gNil : TGs := fun vs σ H Q => vs = [] ∧ Q σ H
def gCons (t : TG) (u : TGs) : TGs := fun vs σ H Q => ∃ v r, vs = v :: r ∧ t v σ H fun σ' H' => u r σ' H' Q
theorem pgs_nil : PGs X [] gNil := by
  intro pins s σ H vs us Q I r h
  obtain ⟨e, h⟩ := h
  subst e
  cases r
  exact assignInOrder_nil ⟨σ, H, I, h⟩
theorem pgs_cons {e : Expr} {es : List Expr} {t : TG} {u : TGs} (h1 : PG X e t) (h2 : PGs X es u)
    (hs : (assignEach (e :: es) X.env).map (·.2) = assign e X.env :: (assignEach es X.env).map (·.2) := by rfl) : PGs X (e :: es) (gCons t u) := by
  intro pins s σ H vs us Q I r h
  obtain ⟨v, vr, e1, h⟩ := h
  subst e1
  cases r with
  | cons r rr =>
    rw [hs]
    refine assignInOrder_cons (thn (h1 pins s σ H _ _ _ I r h) fun _ s1 ⟨σ1, H1, I1, q1⟩ => ?_)
    exact h2 pins s1 σ1 H1 _ _ Q I1 rr q1
/-- (a, b, ..) = a tuple of that length -/
def gTup (K : PySem.W.Frag) (n : Nat) (t : TGs) : TG := fun v σ H Q => ∃ a xs, v = .ref a ∧ SqT K H a xs ∧ xs.length = n ∧ t xs σ H Q
theorem pg_tup {es : List Expr} {k : Nat} {t : TGs} {n : Nat} (hc : X.calm = true) (h : PGs X es t)
    (hn : (assignEach es X.env).length = n := by rfl) (hst : (assignEach es X.env).findIdx? (·.1) = none := by rfl) : PG X (.Tuple es k pos) (gTup X.K n t) := by
  intro pins s σ H v u Q I r hw
  obtain ⟨a, xs, e1, hq, hl, hw⟩ := hw
  subst e1
  cases r
  obtain ⟨its, rv, ht, hz⟩ := I.tuple hq
  refine assign_Tuple_tuple (I.ok.hd hc) ht (by simp [hn, ← hl, rv.length]) hst fun h' hx => ?_
  have I1 : Inv X pins σ H { s with heap := h' } := I.kept (t' := s.toks) fun b o e => hx b o (Nat.ne_of_lt (Heap.lt_size e)) e
  exact h pins _ σ H xs _ Q I1 (by simpa using rv) hw
/-- o[i] = .. -/
def gSub (to ti : TE) (t : TSet) : TG := fun v σ H Q => to σ H fun o H1 => ti σ H1 fun i H2 => t o i v H2 fun H3 => Q σ H3
theorem pg_sub {o i : Expr} {to ti : TE} {t : TSet} (ho : PE X o to) (hi : PE X i ti) (hs : PSet X t)
    (ha : ∀ v, assign (.Subscript o i pos) X.env v = (do
      let ov ← holding [v] (eval o X.env)
      let iv ← holding [v, ov] (eval i X.env)
      standAt pos
      holding [v, ov, iv] (setItem ov iv v)
      release [v, ov, iv] []) := by intro _; rfl) : PG X (.Subscript o i pos) (gSub to ti t) := by
  intro pins s σ H v u Q I r h
  rw [ha]
  refine wpAny_bind (wpAny_holding (thn (ho pins s σ H _ I h) fun ov s1 ⟨x, H1, I1, r1, q1⟩ => ?_))
  refine wpAny_bind (wpAny_holding (thn (hi pins s1 σ H1 _ I1 q1) fun iv s2 ⟨y, H2, I2, r2, q2⟩ => ?_))
  refine wpAny_bind (wpAny_standAt (wpAny_bind (wpAny_holding (thn (hs pins s2 σ H2 x y v ov iv u _ I2 r1 r2 r q2) fun _ s3 ⟨H3, I3, q3⟩ => ?_))))
  exact wpAny_release ⟨σ, H3, I3, q3⟩
/-- target = value -/
def tAsg (te : TE) (g : TG) : TS := fun D σ H => te σ H fun x H1 => g x σ H1 D.nx
theorem ps_asg {tg e : Expr} {te : TE} {g : TG} (he : PE X e te) (hg : PG X tg g) (hs : swapsWithSole [tg] e pos.line X.env = pure false := by rfl) (hw : swappedStores [tg] e X.env = pure none := by rfl)
    (h1 : (assignEach [tg] X.env).map (·.2) = [assign tg X.env] := by rfl) : PS X (.Assign [tg] e pos) (tAsg te g) := by
  intro pins s σ H D I h
  refine wpAny_Assign_stores (thn (he pins s σ H _ I h) fun v s1 ⟨x, H1, I1, r1, q1⟩ => ?_) hs hw
  rw [h1]
  exact thn (hg pins s1 σ H1 x v _ I1 r1 q1) fun _ s2 q => q
/-- name = value -/
theorem ps_set {i : Nat} {x : Str} {e : Expr} {te : TE} {pos' : Pos} (hN : X.N.Nodup) (hi : X.N[i]? = some x) (hx : Loc X.env.scope x) (he : PE X e te) (hs : swapsWith e (some (.Name x pos')) pos.line X.env = pure false := by rfl) (hf : X.fn x = true ∨ X.env.scope.names.lookup x = some .local := by first | exact .inl rfl | exact .inr rfl | assumption) :
    PS X (.Assign [.Name x pos'] e pos) (tAsg te (gName i)) := by
  intro pins s σ H D I h
  refine wpAny_Assign_Name (thn (he pins s σ H _ I h) fun v s1 ⟨y, H1, I1, r1, q1⟩ => ?_) hs
  exact store_ok I1 hN hi hx r1 (fun s2 I2 => ⟨_, H1, I2, q1⟩) hf
/-- a, b = x, y with plain local names: stored from the right; the pair itself is not tracked (the opening rows as in PyProof/Rows/TupAssign.lean:23) -/
def tPar (i j : Nat) (ta : TA) : TS := fun D σ H => ta σ H fun vs H1 => ∃ v w, vs = [v, w] ∧ D.nx ((σ.set i (some v)).set j (some w)) H1
theorem ps_par {i j : Nat} {x y : Str} {a b : Expr} {ta : TA} {px py pt : Pos} {kt k2 pt2} (hc : X.calm = true) (hN : X.N.Nodup) (hi : X.N[i]? = some x) (hj : X.N[j]? = some y) (hij : i ≠ j)
    (hx : X.env.scope.names.lookup x = some .local) (hy : X.env.scope.names.lookup y = some .local) (ha : PA X [a, b] ta)
    (hw : swappedStores [.Tuple [.Name x px, .Name y py] kt pt] (.Tuple [a, b] k2 pt2) X.env = pure (some [x, y]))
    (hs : swapsWithSole [.Tuple [.Name x px, .Name y py] kt pt] (.Tuple [a, b] k2 pt2) pos.line X.env = pure false := by rfl) :
    PS X (.Assign [.Tuple [.Name x px, .Name y py] kt pt] (.Tuple [a, b] k2 pt2) pos) (tPar i j ta) := by
  intro pins s σ H D I h
  rw [exec_Assign_arm]
  refine wpAny_bind (wpAny_standAt ?_)
  rw [hs]
  refine wpAny_bind (wpAny_pure ?_)
  rw [if_neg (by decide)]
  refine wpAny_bind (Tuple_ (thn (ha _ pins s σ H _ I h) fun us s1 ⟨vs, H1, I1, r1, q1⟩ => ?_))
  obtain ⟨v, w, e1, q1⟩ := q1
  subst e1
  obtain ⟨u1, u2, rfl, rv, rw'⟩ : ∃ u1 u2, us = [u1, u2] ∧ RelV v u1 ∧ RelV w u2 := by
    cases r1 with
    | cons p q =>
      cases q with
      | cons p' q' =>
        cases q'
        exact ⟨_, _, rfl, p, p'⟩
  refine wpAny_newObj_type ?_ (by show 2 ≤ sizeLine; decide)
  have I2 : Inv X pins σ H1 { s1 with heap := s1.heap.push { cls := .type "tuple", data := .seq [u1, u2].toArray } } := I1.kept (t' := s1.toks) fun b o e => Heap.get?_push_of_some _ e
  rw [hw]
  refine wpAny_bind (wpAny_pure ?_)
  show wpAny (model X.prog X.w) X.A (do rule "assign.swapped-stores"; let items ← unpackItems (.ref s1.heap.objs.size) 2 none; assignInOrder [fun v => bindName X.env y v, fun v => bindName X.env x v] items.reverse; pure Flow.next) _ _ _
  refine wpAny_bind (wpAny_rule (wpAny_bind (unpackItems_tuple (items := #[u1, u2]) (I.ok.hd hc) (IsTup.new s1.heap _) fun h' hx' => ?_)))
  have I3 := I2.kept (h' := h') (t' := s1.toks) fun b o e => hx' b o (Nat.ne_of_lt (Heap.lt_size e)) e
  show wpAny _ _ (assignInOrder [fun v => bindName X.env y v, fun v => bindName X.env x v] [u2, u1] >>= fun _ => pure Flow.next) _ _ _
  refine wpAny_bind (assignInOrder_cons (wpAny_bindName (store_ok I3 hN hj (.inl hy) rw' (fun s2 I4 => ?_) (.inr hy))))
  refine assignInOrder_cons (wpAny_bindName (store_ok I4 hN hi (.inl hx) rv (fun s3 I5 => assignInOrder_nil (wpAny_pure ?_)) (.inr hx)))
  rw [List.set_comm _ _ (Ne.symm hij)] at I5
  exact ⟨_, H1, I5, q1⟩
end

/-! ### while -/
section
variable {X : Cx} {pos : Pos}
/-- the invariant W with its measure -/
def tWhile (c : TT) (tb : TS) : TS := fun D σ H => ∃ W : Nat → St → Hp → Prop, (∃ m, W m σ H) ∧ ∀ m σ H, W m σ H →
  c σ H fun b H1 => if b = true then ∃ N : St → Hp → Prop, (∀ σ' H', N σ' H' → ∃ m', m' < m ∧ W m' σ' H') ∧ tb { D with nx := N, ct := N, bk := D.nx } σ H1 else D.nx σ H1
theorem ps_while {c : Expr} {body : List Stmt} {tc : TT} {tb : TS} (hp : PassesOwn (model X.prog X.w) X.A X.env X.xe) (hc : PT X c tc) (hb : PSs X body tb) : PS X (.While c body [] pos) (tWhile tc tb) := by
  intro pins s σ H D I h
  obtain ⟨W, ⟨m0, w0⟩, turn⟩ := h
  refine wpAny_While (codeAny_whileLoop (fun n s' => ∃ σ' H', Inv X pins σ' H' s' ∧ W n σ' H') ?_ m0 ⟨σ, H, I, w0⟩)
  rintro n s1 ⟨σ1, H1, I1, w1⟩
  refine wpAny_passesOwn hp (thn (hc pins s1 σ1 H1 _ I1 (turn n σ1 H1 w1)) fun b s2 ⟨H2, I2, q2⟩ => ?_)
  cases b with
  | true =>
    obtain ⟨N, hN, q2⟩ := q2
    rw [if_pos rfl]
    refine wpAny_passesOwn hp (thn (hb pins s2 σ1 H2 _ I2 q2) fun f s3 q3 => ?_)
    cases f with
    | next =>
      obtain ⟨σ3, H3, I3, n3⟩ := q3
      obtain ⟨m', hm, w3⟩ := hN σ3 H3 n3
      exact ⟨m', hm, σ3, H3, I3, w3⟩
    | cont =>
      obtain ⟨σ3, H3, I3, n3⟩ := q3
      obtain ⟨m', hm, w3⟩ := hN σ3 H3 n3
      exact ⟨m', hm, σ3, H3, I3, w3⟩
    | brk => exact q3
    | ret v => exact q3
  | false =>
    rw [if_neg Bool.false_ne_true]
    exact wpAny_execs_nil ⟨σ1, H2, I2, q2⟩
end

/-! ### what a loop or a comprehension walks -/
/-- at turn i: it yields x (the heap may grow), or it stops -/
structure It where
  go : Nat → Hp → Prop
  yld : Nat → Hp → V → Hp → Prop
  stop : Nat → Hp → Prop
/-- the iterator's own objects may turn: they are not the frame's, not pinned, younger than the entry (or a comprehension's own) -/
def FpOk (X : Cx) (pins : List (Addr × Obj)) (H : Hp) (b : Addr) : Prop :=
  H b = none ∧ b ≠ X.env.locals ∧ b ∉ X.fs ∧ (b ∈ X.ex ∨ X.s₀.heap.objs.size ≤ b) ∧ (∀ x c, X.env.cells.lookup x = some c → c ≠ b) ∧ ∀ p ∈ X.pn ++ pins, p.1 ≠ b
theorem Inv.fpOk {X : Cx} {pins : List (Addr × Obj)} {σ : St} {H H' : Hp} {s : Shared} {b : Addr} (I : Inv X pins σ H s) (hb : s.heap.objs.size ≤ b) (hn : H' b = none) : FpOk X pins H' b := by
  refine ⟨hn, Nat.ne_of_gt (Nat.lt_of_lt_of_le I.lt hb), I.nofs hb, .inr (Nat.le_trans I.sz hb), fun x c e z => ?_, fun p hp z => ?_⟩
  · obtain ⟨v, q⟩ := I.cell x c e
    exact absurd (Nat.lt_of_lt_of_le q.lt (by rw [z]; exact hb)) (Nat.lt_irrefl _)
  · exact absurd (Nat.lt_of_lt_of_le (Heap.lt_size (I.pin p hp).1) (by rw [z]; exact hb)) (Nat.lt_irrefl _)
structure Turn (P : Program) (w : World) (K : PySem.W.Frag) (tg : Expr) (J : It) (fp : List Addr) (it : Addr) (tn : Nat → Heap → Prop) : Prop where
  mem : it ∈ fp
  obj : ∀ i h, tn i h → ∀ b ∈ fp, ∃ o, h.get? b = some o ∧ ∀ v, o.data ≠ .cell v
  keep : ∀ i h h', tn i h → (∀ b ∈ fp, ∀ o, h.get? b = some o → h'.get? b = some o) → tn i h'
  item : ∀ (X : Cx), X.prog = P → X.w = w → X.K = K → X.calm = true → ∀ (i : Nat) (pins : List (Addr × Obj)) (s : Shared) (σ : St) (H : Hp) (E : Value → Shared → Prop), Inv X pins σ H s → (∀ b ∈ fp, FpOk X pins H b) → tn i s.heap → J.go i H →
    wpAny (model P w) X.A (pyNext (.ref it)) (fun r s1 => ∃ u, r = some u ∧
      wpAny (model P w) X.A (letOwnedTupleGo tg (.ref it) u) (fun _ s2 => ∃ x H', Inv X pins σ H' s2 ∧ RelV x u ∧ J.yld i H x H' ∧ tn (i + 1) s2.heap ∧ ∀ b ∈ fp, H' b = none) E s1) E s
  done : ∀ (X : Cx), X.prog = P → X.w = w → X.K = K → X.calm = true → ∀ (i : Nat) (pins : List (Addr × Obj)) (s : Shared) (σ : St) (H : Hp) (E : Value → Shared → Prop), Inv X pins σ H s → (∀ b ∈ fp, FpOk X pins H b) → tn i s.heap → J.stop i H →
    wpAny (model P w) X.A (pyNext (.ref it)) (fun r s1 => r = none ∧ Inv X pins σ H s1) E s
  self : ∀ (A : Around) (i : Nat) (s : Shared) (Q : Value → Shared → Prop) (E : Value → Shared → Prop), tn i s.heap → Q (.ref it) s → wpAny (model P w) A (pyIter (.ref it)) Q E s
abbrev TI := St → Hp → (It → Hp → Prop) → Prop
/-- an iterator has come -/
def PIE (X : Cx) (pins : List (Addr × Obj)) (σ : St) (tg : Expr) (R : It → Hp → Prop) (itv : Value) (s2 : Shared) : Prop :=
  ∃ (it : Addr) (fp : List Addr) (tn : Nat → Heap → Prop) (J : It) (H' : Hp), itv = .ref it ∧ Inv X pins σ H' s2 ∧ Turn X.prog X.w X.K tg J fp it tn ∧ tn 0 s2.heap ∧ (∀ b ∈ fp, FpOk X pins H' b) ∧ R J H'
def PI (X : Cx) (tg iter : Expr) (wi : TI) : Prop :=
  ∀ (pins : List (Addr × Obj)) (s : Shared) (σ : St) (H : Hp) (R : It → Hp → Prop), Inv X pins σ H s → wi σ H R →
    wpAny (model X.prog X.w) X.A (eval iter X.env) (fun v s1 => wpAny (model X.prog X.w) X.A (pyIter v) (PIE X pins σ tg R) X.xe s1) X.xe s

/-- the step ahead of the store is nothing for an iterator that keeps no tuple -/
theorem go_of {M : Model} {A : Around} {E : Value → Shared → Prop} {s : Shared} {tg : Expr} {it : Addr} {u : Value} {o : Obj} {n : String} {vs : Array Value} {Q : Unit → Shared → Prop} (ho : s.heap.get? it = some o) (hc : o.cls = .type n) (hd : o.data = .fields vs)
    (hn : ["enumerate", "zip", "dict_itemiterator", "dict_reverseitemiterator", "odict_iterator", "itertools.zip_longest", "itertools.pairwise"].contains n = false) (hQ : Q () s) : wpAny M A (letOwnedTupleGo tg (.ref it) u) Q E s := by
  unfold letOwnedTupleGo
  cases tg <;> first
    | exact wpAny_pure hQ
    | (cases u <;> first
        | exact wpAny_pure hQ
        | (refine wpAny_bind (wpAny_load ho ?_)
           rw [hc, hd]
           show wpAny M A (if (["enumerate", "zip", "dict_itemiterator", "dict_reverseitemiterator", "odict_iterator", "itertools.zip_longest", "itertools.pairwise"].contains n && vs[0]? == some (rawInt _)) = true then _ else _) Q E s
           rw [if_neg (by intro h; rw [hn, Bool.false_and] at h; cases h)]
           exact wpAny_pure hQ))

/-- the list at a, as it stands at each turn (a loop may append to it) -/
def Itl (K : PySem.W.Frag) (a : Addr) : It :=
  ⟨fun i H => ∃ xs x, SqL K H a xs ∧ xs[i]? = some x, fun i H x H' => H' = H ∧ ∀ xs, SqL K H a xs → xs[i]? = some x, fun i H => ∃ xs, SqL K H a xs ∧ xs.length ≤ i⟩
/-- lo, lo + 1, .. (n of them) -/
def Itr (lo : Int) (n : Nat) : It := ⟨fun i _ => i < n, fun i H x H' => H' = H ∧ x = .int (lo + i), fun i _ => n ≤ i⟩
theorem turn_list {P : Program} {w : World} {K : PySem.W.Frag} {tg : Expr} (a it : Addr) : Turn P w K tg (Itl K a) [it] it (fun i h => h.IsListIter it a i) where
  mem := by simp
  obj := fun i h st b hb => by
    have e : b = it := by simpa using hb
    subst e
    obtain ⟨o, e, c, d⟩ := st
    exact ⟨o, e, fun v z => by rw [d] at z; cases z⟩
  keep := fun i h h' st k => st.at fun o e => k it (by simp) o e
  item := by
    intro X hP hw hK hc i pins s σ H E I hf st hg
    subst hP hw hK
    obtain ⟨xs, x, hq, hx⟩ := hg
    obtain ⟨its, rv, p, hz⟩ := I.list hq
    obtain ⟨u, hu, ru⟩ := rv.get hx
    obtain ⟨f0, f1, f2, f3, f4, f5⟩ := hf it (by simp)
    refine wpAny_pyNext_list_item st p.isList (x := u) (by simpa using hu) fun h' st' sb => ?_
    have I1 : Inv X pins σ H { s with heap := h' } := I.turned (t' := s.toks) (fun b o hb e => (sb.2 b hb).trans e) f0 f1 f3 f4 f5
    obtain ⟨o, e, c, d⟩ := id st'
    exact ⟨u, rfl, go_of (s := { s with heap := h' }) e c d (by decide) ⟨x, H, I1, ru, ⟨rfl, fun ys hy => by rw [I.list_inj hy hq]; exact hx⟩, st', fun b hb => (hf b hb).1⟩⟩
  done := by
    intro X hP hw hK hc i pins s σ H E I hf st hg
    subst hP hw hK
    obtain ⟨xs, hq, hx⟩ := hg
    obtain ⟨its, rv, p, hz⟩ := I.list hq
    obtain ⟨f0, f1, f2, f3, f4, f5⟩ := hf it (by simp)
    have hl := rv.length
    exact wpAny_pyNext_list_end (I.ok.hd hc) st p.isList (by simp; omega) fun h' eb => ⟨rfl, I.turned (t' := s.toks) (fun b o hb e => eb b o hb e) f0 f1 f3 f4 f5⟩
  self := fun _ _ _ _ _ st h => wpAny_pyIter_listiter st h
theorem turn_range {P : Program} {w : World} {K : PySem.W.Frag} {tg : Expr} (it : Addr) (lo : Int) (n : Nat) : Turn P w K tg (Itr lo n) [it] it (fun i h => IsRangeIter h it (lo + (i : Nat) * 1) ((n : Int) - (i : Nat)) 1) where
  mem := by simp
  obj := fun i h st b hb => by
    have e : b = it := by simpa using hb
    subst e
    exact ⟨_, st, fun v z => by
      have z' : Data.fields _ = Data.cell v := z
      cases z'⟩
  keep := fun i h h' st k => k it (by simp) _ st
  item := by
    intro X hP hw hK hc i pins s σ H E I hf st hg
    subst hP hw hK
    obtain ⟨f0, f1, f2, f3, f4, f5⟩ := hf it (by simp)
    have W := Walks.range (prog := X.prog) (w := X.w) (I.ok.hd hc) it lo 1 n
    refine W.item i s _ _ hg st fun v h' tk hv st' kk => ?_
    obtain ⟨t, rfl⟩ := hv
    have I1 : Inv X pins σ H { s with heap := h', toks := tk } := I.turned (fun b o hb e => kk b o (by simpa using hb) e) f0 f1 f3 f4 f5
    refine ⟨_, rfl, go_of (s := { s with heap := h', toks := tk }) (n := "range_iterator") st' rfl rfl (by decide) ⟨.int (lo + i), H, I1, ⟨t, ?_⟩, ⟨rfl, rfl⟩, st', fun b hb => (hf b hb).1⟩⟩
    rw [Int.mul_one]
  done := by
    intro X hP hw hK hc i pins s σ H E I hf st hg
    subst hP hw hK
    obtain ⟨f0, f1, f2, f3, f4, f5⟩ := hf it (by simp)
    exact wpAny_pyNext_range_end (I.ok.hd hc) st (by have : n ≤ i := hg; omega) fun h' eb => ⟨rfl, I.turned (t' := s.toks) (fun b o hb e => eb b o hb e) f0 f1 f3 f4 f5⟩
  self := fun _ _ _ _ _ st h => wpAny_pyIter_rangeiter st h
end L2

namespace L2
open PySem PySem.Spec PyProof.Rows
section
variable {X : Cx} {tg : Expr}
def iList (K : PySem.W.Frag) (tl : TE) : TI := fun σ H R => tl σ H fun x H1 => ∃ a, x = .ref a ∧ (∃ xs, SqL K H1 a xs) ∧ R (Itl K a) H1
theorem pi_list {l : Expr} {tl : TE} (hl : PE X l tl) : PI X tg l (iList X.K tl) := by
  intro pins s σ H R I h
  refine thn (hl pins s σ H _ I h) fun v s1 ⟨x, H1, I1, r1, q1⟩ => ?_
  obtain ⟨a, e, ⟨xs, hq⟩, q⟩ := q1
  subst e
  cases r1
  obtain ⟨its, rv, p, hz⟩ := I1.list hq
  refine wpAny_pyIter_list p.isList ?_
  refine ⟨s1.heap.objs.size, [s1.heap.objs.size], _, _, H1, rfl, I1.kept (t' := s1.toks) fun b o e => Heap.get?_push_of_some _ e, turn_list a _, ⟨_, Heap.get?_push_size _ rfl, rfl, rfl⟩, fun b hb => ?_, q⟩
  have e : b = s1.heap.objs.size := by simpa using hb
  subst e
  exact I1.fpOk (Nat.le_refl _) (I1.hok.fresh (Nat.le_refl _))
/-- a range object just made, walked -/
theorem range_it {pins : List (Addr × Obj)} {σ : St} {H : Hp} {s : Shared} {R : It → Hp → Prop} {E : Value → Shared → Prop} {lo hi : Int} {t u v : Tok} {tk : Nat} (I : Inv X pins σ H s) (h1 : -(2 ^ 62) ≤ lo) (h2 : lo < 2 ^ 62) (h3 : -(2 ^ 62) ≤ hi) (h4 : hi < 2 ^ 62)
    (q : R (Itr lo (hi - lo).toNat) H) : wpAny (model X.prog X.w) X.A (pyIter (.ref s.heap.objs.size)) (PIE X pins σ tg R) E { s with heap := s.heap.push { cls := .type "range", data := .fields #[.int lo t, .int hi u, .int 1 v] }, toks := tk } := by
  refine wpAny_pyIter_range (IsRange.new ..) (small_one h1 h2 h3 h4) ?_
  have I1 : Inv X pins σ H { s with heap := s.heap.push { cls := .type "range", data := .fields #[.int lo t, .int hi u, .int 1 v] }, toks := tk } := I.kept fun b o e => Heap.get?_push_of_some _ e
  refine ⟨(s.heap.push { cls := .type "range", data := .fields #[.int lo t, .int hi u, .int 1 v] }).objs.size, [(s.heap.push { cls := .type "range", data := .fields #[.int lo t, .int hi u, .int 1 v] }).objs.size], _, _, H, rfl,
    I1.kept (t' := tk) fun b o e => Heap.get?_push_of_some _ e, turn_range _ lo (hi - lo).toNat, ?_, fun b hb => ?_, q⟩
  · have e1 : lo + ((0 : Nat) : Int) * 1 = lo := by simp
    have e2 : (((hi - lo).toNat : Nat) : Int) - ((0 : Nat) : Int) = Builtin.Range.rangeSize lo hi 1 := by rw [rangeSize_one]; split <;> omega
    show IsRangeIter _ _ (lo + ((0 : Nat) : Int) * 1) ((((hi - lo).toNat : Nat) : Int) - ((0 : Nat) : Int)) 1
    rw [e1, e2]
    exact Heap.get?_push_size _ rfl
  · have e : b = (s.heap.push { cls := .type "range", data := .fields #[.int lo t, .int hi u, .int 1 v] }).objs.size := by simpa using hb
    subst e
    exact I1.fpOk (Nat.le_refl _) (I1.hok.fresh (Nat.le_refl _))
def iRng1 (ta : TA) : TI := fun σ H R => ta σ H fun vs H1 => ∃ j : Int, vs = [.int j] ∧ -(2 ^ 62) ≤ j ∧ j < 2 ^ 62 ∧ R (Itr 0 j.toNat) H1
theorem pi_range1 {a : Expr} {ta : TA} {p pos : Pos} (hg : Gl X "range") (hm : X.mg "range" = none) (ha : PA X [a] ta) (hs : starEach [a] X.env = [(false, eval a X.env)] := by rfl) : PI X tg (.Call (.Name "range" p) [a] [] pos) (iRng1 ta) := by
  intro pins s σ H R I h
  refine Call_ (ld_blt I hg hm boot_range (PyProof.Rows.callWith_type1 (thn (ha pos pins s σ H _ I h) fun us s1 ⟨vs, H1, I1, r1, q1⟩ => ?_) hs rfl))
  obtain ⟨j, e, q1, q2, q⟩ := q1
  subst e
  cases r1 with
  | cons r rr =>
    cases rr
    obtain ⟨t, rfl⟩ := r
    exact call_range_1 (range_it I1 (by omega) (by omega) q1 q2 (by simpa using q))
/-! ### for -/
/-- W: the invariant by the turn and a measure; N: what the body is to reach -/
def tFor (wi : TI) (g : TG) (tb : TS) : TS := fun D σ H => wi σ H fun J H1 => ∃ W : Nat → Nat → St → Hp → Prop, (∃ m, W 0 m σ H1) ∧ ∀ i m σ H, W i m σ H →
  (J.stop i H ∧ D.nx σ H) ∨ (J.go i H ∧ ∃ N : St → Hp → Prop, (∀ σ' H', N σ' H' → ∃ m', m' < m ∧ W (i + 1) m' σ' H') ∧ ∀ x H', J.yld i H x H' → g x σ H' fun σ2 H2 => tb { D with nx := N, ct := N, bk := D.nx } σ2 H2)
/-- the records at fp as they stand -/
def pinsAt (fp : List Addr) (h : Heap) : List (Addr × Obj) := fp.filterMap fun b => (h.get? b).map fun o => (b, o)
theorem mem_pinsAt {fp : List Addr} {h : Heap} {b : Addr} {o : Obj} (hb : b ∈ fp) (e : h.get? b = some o) : (b, o) ∈ pinsAt fp h := List.mem_filterMap.mpr ⟨b, hb, by rw [e]; rfl⟩
theorem of_pinsAt {fp : List Addr} {h : Heap} {p : Addr × Obj} (hp : p ∈ pinsAt fp h) : p.1 ∈ fp ∧ h.get? p.1 = some p.2 := by
  obtain ⟨b, hb, e⟩ := List.mem_filterMap.mp hp
  cases q : h.get? b with
  | none => rw [q] at e; cases e
  | some o =>
    rw [q] at e
    have e' : (b, o) = p := Option.some.inj e
    subst e'
    exact ⟨hb, q⟩
theorem Inv.pinned {pins : List (Addr × Obj)} {σ : St} {H : Hp} {s : Shared} {fp : List Addr} (I : Inv X pins σ H s) (hf : ∀ b ∈ fp, FpOk X pins H b) (ho : ∀ b ∈ fp, ∃ o, s.heap.get? b = some o ∧ ∀ v, o.data ≠ .cell v) : Inv X (pins ++ pinsAt fp s.heap) σ H s :=
  I.pins_of fun p hp => (List.mem_append.mp hp).elim (fun z => I.pin p (List.mem_append_right _ z)) fun z => by
    obtain ⟨hb, e⟩ := of_pinsAt z
    obtain ⟨f0, f1, f2, _⟩ := hf p.1 hb
    obtain ⟨o, e', d⟩ := ho p.1 hb
    rw [e] at e'; cases e'
    exact ⟨e, f0, f1, f2, d⟩
theorem Inv.unpinned {pins pl : List (Addr × Obj)} {σ : St} {H : Hp} {s : Shared} (I : Inv X (pins ++ pl) σ H s) : Inv X pins σ H s := I.pins_of fun p hp => I.pin p (List.mem_append_right _ (List.mem_append_left _ hp))
theorem ps_for {iter : Expr} {body : List Stmt} {wi : TI} {g : TG} {tb : TS} {pos : Pos} (hp : PassesOwn (model X.prog X.w) X.A X.env X.xe) (hc : X.calm = true) (hi : PI X tg iter wi) (hg : PG X tg g) (hb : PSs X body tb)
    (hs : ∀ x, foldedSetIterable iter X.env x = pure x := by intro _; rfl) : PS X (.For tg iter body [] pos) (tFor wi g tb) := by
  intro pins s σ H D I h
  refine wpAny_For (thn (hi pins s σ H _ I h) fun v s1 h1 => thn h1 fun itv s2 h2 => ?_) hs
  obtain ⟨it, fp, tn, J, H2, e, I2, T, st2, f2, W, ⟨m0, w0⟩, turn⟩ := h2
  subst e
  -- what stays true of the iterator's objects through the loop
  have stat : ∀ {H' : Hp}, (∀ b ∈ fp, H' b = none) → ∀ b ∈ fp, FpOk X pins H' b := fun hn b hb => ⟨hn b hb, (f2 b hb).2⟩
  refine codeAny_forLoop_any (fun n s' => ∃ i σ' H', Inv X pins σ' H' s' ∧ tn i s'.heap ∧ (∀ b ∈ fp, H' b = none) ∧ W i n σ' H') ?_ m0 ⟨0, σ, H2, I2, st2, fun b hb => (f2 b hb).1, w0⟩
  rintro n s3 ⟨i, σ3, H3, I3, st3, fr3, w3⟩
  rcases turn i n σ3 H3 w3 with ⟨stop, qn⟩ | ⟨go, N, hN, step⟩
  · refine wpAny_passesOwn hp (thn (T.done X rfl rfl rfl hc i pins s3 σ3 H3 X.xe I3 (stat fr3) st3 stop) fun r s4 ⟨hr, I4⟩ => ?_)
    subst hr
    exact wpAny_execs_nil ⟨σ3, H3, I4, qn⟩
  · refine wpAny_passesOwn hp (thn (T.item X rfl rfl rfl hc i pins s3 σ3 H3 X.xe I3 (stat fr3) st3 go) fun r s4 ⟨u, hr, h4⟩ => ?_)
    subst hr
    refine wpAny_passesOwn hp (thn h4 fun _ s5 ⟨x, H5, I5, r5, y5, st5, fr5⟩ => ?_)
    have I5' := I5.pinned (stat fr5) (T.obj _ _ st5)
    refine wpAny_passesOwn hp (thn (hg _ s5 σ3 H5 x u _ I5' r5 (step x H5 y5)) fun _ s6 ⟨σ6, H6, I6, q6⟩ => ?_)
    refine wpAny_passesOwn hp (thn (hb _ s6 σ6 H6 _ I6 q6) fun f s7 q7 => ?_)
    have again : ∀ {σ7 : St} {H7 : Hp}, Inv X (pins ++ pinsAt fp s5.heap) σ7 H7 s7 → N σ7 H7 → ∃ m, m < n ∧ ∃ i σ' H', Inv X pins σ' H' s7 ∧ tn i s7.heap ∧ (∀ b ∈ fp, H' b = none) ∧ W i m σ' H' := fun {σ7 H7} I7 n7 => by
      obtain ⟨m', hm, w7⟩ := hN σ7 H7 n7
      refine ⟨m', hm, i + 1, σ7, H7, I7.unpinned, T.keep _ _ _ st5 fun b hb o e => (I7.pin (b, o) (List.mem_append_right _ (List.mem_append_right _ (mem_pinsAt hb e)))).1, fun b hb => ?_, w7⟩
      obtain ⟨o, e, d⟩ := T.obj _ _ st5 b hb
      exact (I7.pin (b, o) (List.mem_append_right _ (List.mem_append_right _ (mem_pinsAt hb e)))).2.1
    cases f with
    | next => obtain ⟨σ7, H7, I7, n7⟩ := q7; exact again I7 n7
    | cont => obtain ⟨σ7, H7, I7, n7⟩ := q7; exact again I7 n7
    | brk => obtain ⟨σ7, H7, I7, q7⟩ := q7; exact ⟨σ7, H7, I7.unpinned, q7⟩
    | ret v => obtain ⟨x7, σ7, H7, I7, r7, q7⟩ := q7; exact ⟨x7, σ7, H7, I7.unpinned, r7, q7⟩
end

/-! ### the forms one uses -/
/-- over a list that the body leaves as it is -/
theorem for_list {K : PySem.W.Frag} {a : Addr} {xs : List V} {g : TG} {tb : TS} {D : Ends} {σ : St} {H : Hp} (Pv : Nat → St → Hp → Prop) (h0 : Pv 0 σ H) (hl : ∀ i σ H, i ≤ xs.length → Pv i σ H → SqL K H a xs)
    (hs : ∀ i x σ H, xs[i]? = some x → Pv i σ H → g x σ H fun σ2 H2 => tb { D with nx := Pv (i + 1), ct := Pv (i + 1), bk := D.nx } σ2 H2) (hd : ∀ σ H, Pv xs.length σ H → D.nx σ H) :
    ∃ W : Nat → Nat → St → Hp → Prop, (∃ m, W 0 m σ H) ∧ ∀ i m σ H, W i m σ H →
      ((Itl K a).stop i H ∧ D.nx σ H) ∨ ((Itl K a).go i H ∧ ∃ N : St → Hp → Prop, (∀ σ' H', N σ' H' → ∃ m', m' < m ∧ W (i + 1) m' σ' H') ∧ ∀ x H', (Itl K a).yld i H x H' → g x σ H' fun σ2 H2 => tb { D with nx := N, ct := N, bk := D.nx } σ2 H2) := by
  refine ⟨fun i m σ H => m = xs.length - i ∧ i ≤ xs.length ∧ Pv i σ H, ⟨xs.length, by simp, Nat.zero_le _, h0⟩, ?_⟩
  rintro i m σ H ⟨rfl, hi, p⟩
  have q := hl i σ H hi p
  by_cases hlt : i < xs.length
  · refine .inr ⟨⟨xs, xs[i], q, by simp [hlt]⟩, Pv (i + 1), fun σ' H' p' => ⟨xs.length - (i + 1), by omega, rfl, hlt, p'⟩, fun x H' y => ?_⟩
    obtain ⟨e, y⟩ := y
    subst e
    exact hs i x σ _ (y xs q) p
  · have e : i = xs.length := by omega
    subst e
    exact .inl ⟨⟨xs, q, Nat.le_refl _⟩, hd σ H p⟩
end L2

namespace L2
open PySem PySem.Spec PyProof.Rows

abbrev R2 := V → V → Hp → VK → Prop
/-- a two-place operation on values: f is binaryOp op, inplaceOp op or compareOp op -/
def OpR (X : Cx) (f : Value → Value → Sem Value) (r : R2) : Prop :=
  ∀ (pins : List (Addr × Obj)) (s : Shared) (σ : St) (H : Hp) (x y : V) (v u : Value) (Q : VK), Inv X pins σ H s → RelV x v → RelV y u → r x y H Q →
    wpAny (model X.prog X.w) X.A (f v u) (EP X pins σ Q) X.xe s
/-- a one-place operation -/
def UnR (X : Cx) (f : Value → Sem Value) (r : V → Hp → VK → Prop) : Prop :=
  ∀ (pins : List (Addr × Obj)) (s : Shared) (σ : St) (H : Hp) (x : V) (v : Value) (Q : VK), Inv X pins σ H s → RelV x v → r x H Q →
    wpAny (model X.prog X.w) X.A (f v) (EP X pins σ Q) X.xe s
/-- a call of a value that is known (a builtin, a type) with values -/
def CallR (X : Cx) (f : Value) (r : List V → Hp → VK → Prop) : Prop :=
  ∀ (pins : List (Addr × Obj)) (s : Shared) (σ : St) (H : Hp) (xs : List V) (us : List Value) (Q : VK), Inv X pins σ H s → Vals xs us → r xs H Q →
    wpAny (model X.prog X.w) X.A (call f us) (EP X pins σ Q) X.xe s
def tOp (r : R2) (ta tb : TE) : TE := fun σ H Q => ta σ H fun x H1 => tb σ H1 fun y H2 => r x y H2 Q
def tUn (r : V → Hp → VK → Prop) (ta : TE) : TE := fun σ H Q => ta σ H fun x H1 => r x H1 Q
/-- ints in, under C, and a value out -/
def rI (C : Int → Int → Prop) (g : Int → Int → V) : R2 := fun x y H Q => ∃ i j, x = .int i ∧ y = .int j ∧ C i j ∧ Q (g i j) H
def rI0 (g : Int → Int → V) : R2 := fun x y H Q => ∃ i j, x = .int i ∧ y = .int j ∧ Q (g i j) H
def rU (g : Int → V) : V → Hp → VK → Prop := fun x H Q => ∃ i, x = .int i ∧ Q (g i) H

section
variable {X : Cx} {a b c : Expr} {ta tb tc : TE} {pos : Pos}

theorem binT (ha : PE X a ta) (hb : PE X b tb) {pins : List (Addr × Obj)} {s : Shared} {σ : St} {H : Hp} {R : V → V → Hp → Prop} (I : Inv X pins σ H s)
    (h : ta σ H fun x H1 => tb σ H1 fun y H2 => R x y H2) {Q : Value → Shared → Prop} {f : Value → Value → Sem Value}
    (hf : ∀ v u s2 x y H2, Inv X pins σ H2 s2 → RelV x v → RelV y u → R x y H2 → wpAny (model X.prog X.w) X.A (f v u) Q X.xe s2) :
    wpAny (model X.prog X.w) X.A (eval a X.env) (fun v s₁ => wpAny (model X.prog X.w) X.A (eval b X.env) (fun u s₂ => wpAny (model X.prog X.w) X.A (f v u) Q X.xe s₂) X.xe s₁) X.xe s := by
  refine thn (ha pins s σ H _ I h) fun v s1 ⟨x, H1, I1, r1, q1⟩ => ?_
  refine thn (hb pins s1 σ H1 _ I1 q1) fun u s2 ⟨y, H2, I2, r2, q2⟩ => ?_
  exact hf v u s2 x y H2 I2 r1 r2 q2

theorem pe_op {op : Operator} {r : R2} (ho : OpR X (binaryOp op) r) (ha : PE X a ta) (hb : PE X b tb) : PE X (.BinOp a op b pos) (tOp r ta tb) := by
  intro pins s σ H Q I h
  exact wpAny_BinOp (binT ha hb I h fun v u s2 x y H2 I2 rx ry q => ho pins s2 σ H2 x y v u Q I2 rx ry q)
theorem pe_un {op : UnaryOp} {r : V → Hp → VK → Prop} (ho : UnR X (unaryOp op) r) (ha : PE X a ta) : PE X (.UnaryOp op a pos) (tUn r ta) := by
  intro pins s σ H Q I h
  exact UnaryOp_ (thn (ha pins s σ H _ I h) fun v s1 ⟨x, H1, I1, r1, q1⟩ => ho pins s1 σ H1 x v Q I1 r1 q1)
/-! ### ints -/
theorem opI {f : Value → Value → Sem Value} {C : Int → Int → Prop} {g : Int → Int → Int}
    (rule : ∀ (i j : Int) (t u : Tok) (s : Shared) (Q : Value → Shared → Prop) (E : Value → Shared → Prop), C i j → Q (.int (g i j) s.toks) { s with toks := s.toks + 1 } → wpAny (model X.prog X.w) X.A (f (.int i t) (.int j u)) Q E s) :
    OpR X f (rI C fun i j => .int (g i j)) := by
  intro pins s σ H x y v u Q I rx ry h
  obtain ⟨i, j, rfl, rfl, hc, q⟩ := h
  obtain ⟨t, rfl⟩ := rx
  obtain ⟨t', rfl⟩ := ry
  exact rule i j t t' s _ _ hc ⟨.int (g i j), H, I.tok _, ⟨_, rfl⟩, q⟩
theorem opI0 {f : Value → Value → Sem Value} {g : Int → Int → Int}
    (rule : ∀ (i j : Int) (t u : Tok) (s : Shared) (Q : Value → Shared → Prop) (E : Value → Shared → Prop), Q (.int (g i j) s.toks) { s with toks := s.toks + 1 } → wpAny (model X.prog X.w) X.A (f (.int i t) (.int j u)) Q E s) :
    OpR X f (rI0 fun i j => .int (g i j)) := by
  intro pins s σ H x y v u Q I rx ry h
  obtain ⟨i, j, rfl, rfl, q⟩ := h
  obtain ⟨t, rfl⟩ := rx
  obtain ⟨t', rfl⟩ := ry
  exact rule i j t t' s _ _ ⟨.int (g i j), H, I.tok _, ⟨_, rfl⟩, q⟩
theorem opB0 {f : Value → Value → Sem Value} {g : Int → Int → Bool}
    (rule : ∀ (i j : Int) (t u : Tok) (s : Shared) (Q : Value → Shared → Prop) (E : Value → Shared → Prop), Q (.bool (g i j)) s → wpAny (model X.prog X.w) X.A (f (.int i t) (.int j u)) Q E s) :
    OpR X f (rI0 fun i j => .bl (g i j)) := by
  intro pins s σ H x y v u Q I rx ry h
  obtain ⟨i, j, rfl, rfl, q⟩ := h
  obtain ⟨t, rfl⟩ := rx
  obtain ⟨t', rfl⟩ := ry
  exact rule i j t t' s _ _ ⟨.bl (g i j), H, I, rfl, q⟩

def CDivN (i j : Int) : Prop := j ≠ 0 ∧ j.natAbs < 1073741824
def CPow (i j : Int) : Prop := 0 ≤ j ∧ j ≤ 1000000 ∧ i.natAbs < 2 ^ 64
def CMul (i j : Int) : Prop := (-(2 ^ 64) < i ∧ i < 2 ^ 64) ∨ (-(2 ^ 64) < j ∧ j < 2 ^ 64)
theorem CMul.ok {i j : Int} (h : CMul i j) : IntMulOk i j := by
  rcases h with ⟨h1, h2⟩ | ⟨h1, h2⟩
  · exact .of_left (intBits_le_64 h1 h2)
  · exact .of_right (intBits_le_64 h1 h2)
theorem op_add : OpR X (binaryOp .Add) (rI0 fun i j => .int (i + j)) := opI0 fun _ _ _ _ _ _ _ q => add_int q
theorem op_sub : OpR X (binaryOp .Sub) (rI0 fun i j => .int (i - j)) := opI0 fun _ _ _ _ _ _ _ q => sub_int q
theorem op_mul : OpR X (binaryOp .Mult) (rI CMul fun i j => .int (i * j)) := opI fun _ _ _ _ _ _ _ hc q => mul_int q hc.ok
theorem op_fdivN : OpR X (binaryOp .FloorDiv) (rI CDivN fun i j => .int (i.fdiv j)) := opI fun _ _ _ _ _ _ _ hc q => floordiv_int hc.1 q (.inl (PyProof.noPylong_small hc.2))
/-- % by a positive divisor of any size -/
theorem op_mod : OpR X (binaryOp .Mod) (rI (fun _ j => 0 < j) fun i j => .int (i % j)) := opI fun i j _ _ _ _ _ hc q => by
  have h1 : (0 : Int) < j := hc
  exact mod_int' (by omega) (by rw [Int.fmod_eq_emod_of_nonneg i (by omega)]; exact q)
theorem op_modN : OpR X (binaryOp .Mod) (rI (fun _ j => j ≠ 0) fun i j => .int (i.fmod j)) := opI fun _ _ _ _ _ _ _ hc q => mod_int' hc q
theorem op_pow : OpR X (binaryOp .Pow) (rI CPow fun i j => .int (i ^ j.toNat)) := opI fun _ _ _ _ _ _ _ hc q => pow_int_small hc.1 hc.2.1 hc.2.2 q
theorem op_shl : OpR X (binaryOp .LShift) (rI CPow fun i j => .int (i * 2 ^ j.toNat)) := opI fun _ _ _ _ _ _ _ hc q => lshift_int_small hc.1 hc.2.1 hc.2.2 q
theorem unI {f : Value → Sem Value} {g : Int → Int}
    (rule : ∀ (i : Int) (t : Tok) (s : Shared) (Q : Value → Shared → Prop) (E : Value → Shared → Prop), Q (.int (g i) s.toks) { s with toks := s.toks + 1 } → wpAny (model X.prog X.w) X.A (f (.int i t)) Q E s) :
    UnR X f (rU fun i => .int (g i)) := by
  intro pins s σ H x v Q I rx h
  obtain ⟨i, rfl, q⟩ := h
  obtain ⟨t, rfl⟩ := rx
  exact rule i t s _ _ ⟨.int (g i), H, I.tok _, ⟨_, rfl⟩, q⟩
theorem un_neg : UnR X (unaryOp .USub) (rU fun i => .int (-i)) := unI fun _ _ _ _ _ q => neg_int q
end

/-! ### comparisons -/
/-- the scalars that == tells apart as data does -/
def scal : V → V → Bool
  | .non, .non => true | .non, .int _ => true | .int _, .non => true | .non, .bl _ => true | .bl _, .non => true | .non, .str _ => true | .str _, .non => true
  | .int _, .int _ => true | .bl _, .bl _ => true | .str _, .str _ => true | .byt _, .byt _ => true
  | .int _, .str _ => true | .str _, .int _ => true | .bl _, .str _ => true | .str _, .bl _ => true
  | _, _ => false
def rEq : R2 := fun x y H Q => scal x y = true ∧ Q (.bl (decide (x = y))) H
def rNe : R2 := fun x y H Q => scal x y = true ∧ Q (.bl (!decide (x = y))) H

theorem dec_int {i j : Int} : decide (V.int i = V.int j) = (i == j) := by
  rw [Bool.eq_iff_iff]
  simp
theorem dec_bl {i j : Bool} : decide (V.bl i = V.bl j) = (i == j) := by
  rw [Bool.eq_iff_iff]
  simp
theorem dec_str {i j : Str} : decide (V.str i = V.str j) = (i == j) := by
  rw [Bool.eq_iff_iff]
  simp
theorem dec_byt {i j : Array UInt8} : decide (V.byt i = V.byt j) = (i.toList == j.toList) := by
  rw [Bool.eq_iff_iff]
  cases i
  cases j
  simp

section
variable {X : Cx} {a b c : Expr} {ta tb tc : TE} {pos : Pos}
theorem fin_bl {pins : List (Addr × Obj)} {σ : St} {H : Hp} {s : Shared} {Q : VK} {k k' : Bool} (I : Inv X pins σ H s) (q : Q (.bl k) H) (e : k = k') : EP X pins σ Q (.bool k') s := by
  subst e
  exact ⟨.bl k, H, I, rfl, q⟩
theorem op_eq : OpR X (compareOp .Eq) rEq := by
  intro pins s σ H x y v u Q I rx ry h
  obtain ⟨hs, q⟩ := h
  cases x with
  | non =>
    cases rx
    cases y with
    | non => cases ry; exact PySem.EqNone.eq_none_none (fin_bl I q (by simp))
    | bl j => cases ry; exact PySem.EqNone.eq_none_bool (fin_bl I q (by simp))
    | int j => obtain ⟨t', rfl⟩ := ry; exact PySem.EqNone.eq_none_int (fin_bl I q (by simp))
    | str j => obtain ⟨t', rfl⟩ := ry; exact PySem.EqNone.eq_none_str (fin_bl I q (by simp))
    | _ => exact absurd (show false = true from hs) Bool.false_ne_true
  | bl i =>
    cases rx
    cases y with
    | non => cases ry; exact PySem.EqNone.eq_bool_none (fin_bl I q (by simp))
    | bl j => cases ry; exact eq_bool (fin_bl I q dec_bl)
    | str j => obtain ⟨t', rfl⟩ := ry; exact PySem.EqMixed.eq_bool_str (fin_bl I q (by simp))
    | _ => exact absurd (show false = true from hs) Bool.false_ne_true
  | int i =>
    obtain ⟨t, rfl⟩ := rx
    cases y with
    | non => cases ry; exact PySem.EqNone.eq_int_none (fin_bl I q (by simp))
    | int j => obtain ⟨t', rfl⟩ := ry; exact eq_int (fin_bl I q dec_int)
    | str j => obtain ⟨t', rfl⟩ := ry; exact PySem.EqMixed.eq_int_str (fin_bl I q (by simp))
    | _ => exact absurd (show false = true from hs) Bool.false_ne_true
  | str i =>
    obtain ⟨t, rfl⟩ := rx
    cases y with
    | non => cases ry; exact PySem.EqNone.eq_str_none (fin_bl I q (by simp))
    | bl j => cases ry; exact PySem.EqMixed.eq_str_bool (fin_bl I q (by simp))
    | int j => obtain ⟨t', rfl⟩ := ry; exact PySem.EqMixed.eq_str_int (fin_bl I q (by simp))
    | str j => obtain ⟨t', rfl⟩ := ry; exact eq_str (fin_bl I q dec_str)
    | _ => exact absurd (show false = true from hs) Bool.false_ne_true
  | byt i =>
    obtain ⟨t, rfl⟩ := rx
    cases y with
    | byt j => obtain ⟨t', rfl⟩ := ry; exact PySem.W.eq_bytes (fin_bl I q dec_byt)
    | _ => exact absurd (show false = true from hs) Bool.false_ne_true
  | _ => cases y <;> exact absurd (show false = true from hs) Bool.false_ne_true
theorem op_ne : OpR X (compareOp .NotEq) rNe := by
  intro pins s σ H x y v u Q I rx ry h
  obtain ⟨hs, q⟩ := h
  cases x with
  | non =>
    cases rx
    cases y with
    | non => cases ry; exact PySem.EqNone.ne_none_none (fin_bl I q (by simp))
    | bl j => cases ry; exact PySem.EqNone.ne_none_bool (fin_bl I q (by simp))
    | int j => obtain ⟨t', rfl⟩ := ry; exact PySem.EqNone.ne_none_int (fin_bl I q (by simp))
    | str j => obtain ⟨t', rfl⟩ := ry; exact PySem.EqNone.ne_none_str (fin_bl I q (by simp))
    | _ => exact absurd (show false = true from hs) Bool.false_ne_true
  | bl i =>
    cases rx
    cases y with
    | non => cases ry; exact PySem.EqNone.ne_bool_none (fin_bl I q (by simp))
    | bl j => cases ry; exact ne_bool (fin_bl I q (congrArg not dec_bl))
    | str j => obtain ⟨t', rfl⟩ := ry; exact PySem.EqMixed.ne_bool_str (fin_bl I q (by simp))
    | _ => exact absurd (show false = true from hs) Bool.false_ne_true
  | int i =>
    obtain ⟨t, rfl⟩ := rx
    cases y with
    | non => cases ry; exact PySem.EqNone.ne_int_none (fin_bl I q (by simp))
    | int j => obtain ⟨t', rfl⟩ := ry; exact ne_int (fin_bl I q (congrArg not dec_int))
    | str j => obtain ⟨t', rfl⟩ := ry; exact PySem.EqMixed.ne_int_str (fin_bl I q (by simp))
    | _ => exact absurd (show false = true from hs) Bool.false_ne_true
  | str i =>
    obtain ⟨t, rfl⟩ := rx
    cases y with
    | non => cases ry; exact PySem.EqNone.ne_str_none (fin_bl I q (by simp))
    | bl j => cases ry; exact PySem.EqMixed.ne_str_bool (fin_bl I q (by simp))
    | int j => obtain ⟨t', rfl⟩ := ry; exact PySem.EqMixed.ne_str_int (fin_bl I q (by simp))
    | str j => obtain ⟨t', rfl⟩ := ry; exact ne_str (fin_bl I q (congrArg not dec_str))
    | _ => exact absurd (show false = true from hs) Bool.false_ne_true
  | byt i =>
    obtain ⟨t, rfl⟩ := rx
    cases y with
    | byt j => obtain ⟨t', rfl⟩ := ry; exact PySem.W.ne_bytes (fin_bl I q (congrArg not dec_byt))
    | _ => exact absurd (show false = true from hs) Bool.false_ne_true
  | _ => cases y <;> exact absurd (show false = true from hs) Bool.false_ne_true

theorem op_lt : OpR X (compareOp .Lt) (rI0 fun i j => .bl (decide (i < j))) := opB0 fun _ _ _ _ _ _ _ q => lt_int q
theorem op_le : OpR X (compareOp .LtE) (rI0 fun i j => .bl (decide (i ≤ j))) := opB0 fun _ _ _ _ _ _ _ q => le_int q
theorem op_gt : OpR X (compareOp .Gt) (rI0 fun i j => .bl (decide (j < i))) := opB0 fun _ _ _ _ _ _ _ q => gt_int q
/-- two rules for one operation: by cases -/
theorem OpR.or {f : Value → Value → Sem Value} {r r' : R2} (h : OpR X f r) (h' : OpR X f r') : OpR X f (fun x y H Q => r x y H Q ∨ r' x y H Q) := by
  intro pins s σ H x y v u Q I rx ry q
  rcases q with q | q
  · exact h pins s σ H x y v u Q I rx ry q
  · exact h' pins s σ H x y v u Q I rx ry q

theorem nomark (b : Expr) {op : CmpOp} (h : op ≠ .In := by decide) (h2 : op ≠ .NotIn := by decide) : behindInMarks op b = false := by
  have e1 : (op == CmpOp.In) = false := by cases op <;> first | rfl | exact absurd rfl h
  have e2 : (op == CmpOp.NotIn) = false := by cases op <;> first | rfl | exact absurd rfl h2
  cases b <;> simp [behindInMarks, e1, e2]
/-- a comparison as a value; hm: nomark b, or (for in, not in) by with_unfolding_all rfl -/
theorem pe_cmpR {op : CmpOp} {r : R2} (ho : OpR X (compareOp op) r) (ha : PE X a ta) (hb : PE X b tb) (hm : behindInMarks op b = false) : PE X (.Compare a [op] [b] pos) (tOp r ta tb) := by
  intro pins s σ H Q I h
  exact wpAny_Compare1 (binT ha hb I h fun v u s2 x y H2 I2 rx ry q => ho pins s2 σ H2 x y v u Q I2 rx ry q) hm
/-- a reading of a value as a test -/
def tTest (t : TE) : TT := fun σ H Q => t σ H fun x H' => ∃ k, x = .bl k ∧ Q k H'
theorem pt_cmpR {op : CmpOp} {r : R2} (ho : OpR X (compareOp op) r) (ha : PE X a ta) (hb : PE X b tb) (hm : behindInMarks op b = false) : PT X (.Compare a [op] [b] pos) (tTest (tOp r ta tb)) := by
  intro pins s σ H Q I h
  refine wpAny_isTrue_Compare1 (thn (ha pins s σ H _ I h) fun v s1 ⟨x, H1, I1, r1, q1⟩ => thn (hb pins s1 σ H1 _ I1 q1) fun u s2 ⟨y, H2, I2, r2, q2⟩ =>
    thn (ho pins s2 σ H2 x y v u _ I2 r1 r2 q2) fun c s3 ⟨z, H3, I3, r3, k, e, q3⟩ => ?_) hm
  subst e
  cases r3
  exact wpAny_truthy_bool ⟨H3, I3, q3⟩
/-- a op1 b op2 c -/
def tChain (r r' : R2) (ta tb tc : TE) : TE := fun σ H Q => ta σ H fun x H1 => tb σ H1 fun y H2 => r x y H2 fun z H3 => ∃ k, z = .bl k ∧
  (if k = true then tc σ H3 fun w' H4 => r' y w' H4 Q else Q (.bl false) H3)
/-! ### truth -/
/-- a value's truth by the abstract heap -/
def TruV (K : PySem.W.Frag) (x : V) (H : Hp) (k : Bool) : Prop :=
  match x with
  | .non => k = false
  | .bl b => k = b
  | .int i => k = (i != 0)
  | .str y => y.length ≤ sizeLine ∧ k = ((y.length : Int) != 0)
  | .byt y => y.size ≤ sizeLine ∧ k = ((y.size : Int) != 0)
  | .ref p => (∃ xs, SqL K H p xs ∧ k = !xs.isEmpty) ∨ (∃ xs, SqT K H p xs ∧ k = !xs.isEmpty) ∨ ∃ kvs, H p = some (.dK kvs) ∧ k = !kvs.isEmpty
  | _ => False
theorem line63 : (sizeLine : Nat) < 2 ^ 63 := by rw [sizeLine_eq]; decide
/-! ### scalar builtins, by CallR -/
theorem vals1 {x : V} {us : List Value} (r : Vals [x] us) : ∃ u, us = [u] ∧ RelV x u := by
  cases r with
  | cons r1 r2 => cases r2; exact ⟨_, rfl, r1⟩
theorem vals2 {x y : V} {us : List Value} (r : Vals [x, y] us) : ∃ u w', us = [u, w'] ∧ RelV x u ∧ RelV y w' := by
  cases r with
  | cons r1 r2 =>
    cases r2 with
    | cons r3 r4 => cases r4; exact ⟨_, _, rfl, r1, r3⟩
theorem call_abs : CallR X (.builtin "abs") (fun xs H Q => ∃ i, xs = [.int i] ∧ Q (.int (if i < 0 then -i else i)) H) := by
  intro pins s σ H xs us Q I r h
  obtain ⟨i, rfl, q⟩ := h
  obtain ⟨u, rfl, t, rfl⟩ := vals1 r
  exact call_abs_int fun u tk => ⟨.int (if i < 0 then -i else i), H, I.tok _, ⟨_, rfl⟩, q⟩
theorem call_int1 : CallR X (.type "int") (fun xs H Q => (∃ i, xs = [.int i] ∧ Q (.int i) H) ∨ ∃ k, xs = [.bl k] ∧ Q (.int (if k then 1 else 0)) H) := by
  intro pins s σ H xs us Q I r h
  rcases h with ⟨i, rfl, q⟩ | ⟨k, rfl, q⟩
  · obtain ⟨u, rfl, t, rfl⟩ := vals1 r
    exact call_int_int ⟨.int i, H, I, ⟨_, rfl⟩, q⟩
  · obtain ⟨u, rfl, r1⟩ := vals1 r
    cases r1
    exact call_int_bool ⟨.int (if k then 1 else 0), H, I.tok _, ⟨_, rfl⟩, q⟩
end
end L2

namespace L2
open PySem PySem.Spec PyProof.Rows

/-! ### an instance, its attributes a map -/
structure ObjM (h : Heap) (x dx C : Addr) (mA : Str → Option Value) : Prop where
  obj : h.get? x = some (PySem.W.instObj C dx)
  ns : h.Ns1 dx mA
  ne : dx ≠ x

theorem lookIn_ns {h : Heap} {dx : Addr} {mA : Str → Option Value} (n : h.Ns1 dx mA) : ∃ od, h.get? dx = some od ∧ ∀ name, PySem.W.lookIn name od = some (mA name) := by
  obtain ⟨o, es, ep, ho, hd, hk, _, hm⟩ := n
  refine ⟨o, ho, fun name => ?_⟩
  have e := hm name
  unfold nsFind findBy at e
  rw [← Array.find?_toList] at e
  unfold PySem.W.lookIn
  rw [hd]
  dsimp only
  split
  · rename_i y q
    rw [q] at e
    exact congrArg some e
  · rename_i q
    rw [q] at e
    have a : es.toList.any (·.refKey) = false := by
      rw [List.any_eq_false]
      intro y hy
      obtain ⟨z, t, hkey⟩ := hk y (Array.mem_toList_iff.mp hy)
      simp [DictEntry.refKey, hkey]
    have a' : ¬ es.toList.any (·.refKey) = true := by rw [a]; exact Bool.false_ne_true
    rw [if_neg a']
    exact congrArg some e

theorem ObjM.look {h : Heap} {x dx C : Addr} {mA : Str → Option Value} (I : ObjM h x dx C mA) : ∃ od, PySem.W.InstAt h x (PySem.W.instObj C dx) C (some od) ∧ ∀ name, PySem.W.lookIn name od = some (mA name) :=
  let ⟨od, ho, hl⟩ := lookIn_ns I.ns
  ⟨od, ⟨I.obj, rfl, rfl, ho⟩, hl⟩

section
variable {prog : Program} {w : World} {A : Around} {E : Value → Shared → Prop} {s : Shared} {K : PySem.W.Frag} {x dx C f : Addr} {mA : Str → Option Value} {name : Str} {v : Value}

theorem get_map {expr : Bool} {Q : Value → Shared → Prop} (X : K.In s.heap) (I : ObjM s.heap x dx C mA) (hg : PySem.W.plainGet K C name = true) (hh : PySem.W.hasDictIn K C = true)
    (ha : PySem.W.findIn K (.ref C) name = some none) (hv : mA name = some v) (hv' : PySem.W.handedIn v = true) (h : Q v { s with toks := s.toks + 1 }) :
    wpAny (model prog w) A (getAttr (.ref x) name expr) Q E s := by
  obtain ⟨od, J, hl⟩ := I.look
  exact PySem.W.get_value X J (PySem.W.plainGet_of hg).1 (PySem.W.findObj_own hh ha rfl (by rw [hl, hv])) hv' h

theorem get_meth {pl : Sem Bool} {Q : Value × List Value → Shared → Prop} (X : K.In s.heap) (I : ObjM s.heap x dx C mA) (hg : PySem.W.plainGet K C name = true)
    (hf : PySem.W.findIn K (.ref C) name = some (some (.ref f))) (ht : PySem.W.isFn K (.ref f) = true) (hv : mA name = none) (h : Q (.ref f, [.ref x]) s) :
    wpAny (model prog w) A (getMethod (.ref x) name pl) Q E s := by
  obtain ⟨od, J, hl⟩ := I.look
  exact PySem.W.method_fn X J (PySem.W.plainGet_of hg).1 (PySem.W.plainGet_of hg).2 hf (beq_iff_eq.mp ht) (by show (PySem.W.lookIn name od).map (·.isSome) = some false; rw [hl, hv]; rfl) h

theorem set_map {ns : List Str} {Q : Unit → Shared → Prop} (X : K.In s.heap) (I : ObjM s.heap x dx C mA)
    (hs : PySem.W.findIn K (.ref C) "__setattr__" = some (some (.builtin "object.__setattr__"))) (hp : PySem.W.plainOver K C = true) (ht : PySem.W.takerIn K C name = some none) (hh : PySem.W.hasDictIn K C = true)
    (hw : PySem.Within mA ns) (hsz : ns.length ≤ sizeLine)
    (h : ∀ h', ObjM h' x dx C (fun y => if y = name then some v else mA y) → Heap.SameBut dx s.heap h' → Q () { s with heap := h', toks := s.toks + 2 }) :
    wpAny (model prog w) A (setAttr (.ref x) name v) Q E s := by
  obtain ⟨od, J, hl⟩ := I.look
  refine PySem.W.set_plain X J hs (PySem.W.osa_open (s := { s with toks := s.toks + 1 }) (r := none) X J hp ht fun b => ?_)
  obtain ⟨cd, hc, hd'⟩ := PySem.W.any_some hh
  have hx : s.heap.get? x = some ⟨.ref C, some dx, .plain, #[]⟩ := I.obj
  refine wpAny_bind (wpAny_pure (wpAny_bind (wpAny_bind (wpAny_loadPart hx (wpAny_bind (PySem.W.Looks.here (s := { s with toks := s.toks + 1 }) (PySem.W.looks_clsIn X hc) ?_))))))
  rw [hd']
  refine wpAny_pure (a := some dx) (wpAny_bind (wpAny_pure (wpAny_bind ?_)))
  refine wpAny_nsSet1 (s := { s with toks := s.toks + 1 }) I.ns fun h' hn2 hs2 => ?_
  obtain ⟨oD, esD, epD, hoD, hdD, hcD⟩ := hn2.count (PySem.Within.cons name v hw)
  refine wpAny_bind (wpAny_lookBehind hoD (by rw [hdD]; exact pastItsLine_dict (Nat.le_trans hcD (by rw [List.length_cons]; omega))) ?_)
  exact wpAny_pure (h _ ⟨(hs2.2 _ (Ne.symm I.ne)).trans I.obj, hn2, I.ne⟩ hs2)

/-- C(..): the dict at the heap's end, the instance behind it; then its __init__ -/
theorem make_map {R : Result → Shared → Prop} {vs : List Value} {kw : List (Str × Value)} (X : K.In s.heap) (hm : PySem.W.makesIn K C = true)
    (hi : PySem.W.findIn K (.ref C) "__init__" = some (some (.ref f))) (hf : PySem.W.typeIn K (.ref f) = some (.type "function"))
    (h : codeAny (model prog w) (A.under (.builtin "type.__call__" ⟨.ref C :: vs, kw⟩)) (.call (.ref f) ⟨.ref (s.heap.objs.size + 1) :: vs, kw⟩) (PySem.W.InitBack (s.heap.objs.size + 1) R)
      { s with heap := (s.heap.push PySem.W.emptyDict).push (PySem.W.instObj C s.heap.objs.size) }) :
    codeAny (model prog w) A (.call (.ref C) ⟨vs, kw⟩) R s := by
  obtain ⟨hh, g, d, t, os⟩ := s
  exact PySem.W.make_core (PySem.W.makes_of X hm) (PySem.W.looks_findIn X hi) (fun self => PySem.W.bind_fn X self hf) (.inl rfl) h
end

/-! ### the attributes as a list of pairs -/
def putF (f : Str) (v : V) : List (Str × V) → List (Str × V)
  | [] => [(f, v)]
  | (g, x) :: r => if g = f then (g, v) :: r else (g, x) :: putF f v r
theorem lookup_putF (f g : Str) (v : V) : ∀ fs : List (Str × V), (putF f v fs).lookup g = if g = f then some v else fs.lookup g
  | [] => by
    show List.lookup g [(f, v)] = _
    by_cases h : g = f
    · have hb : (g == f) = true := beq_iff_eq.mpr h
      simp only [List.lookup, hb, if_pos h]
    · have hb : (g == f) = false := beq_eq_false_iff_ne.mpr h
      simp only [List.lookup, hb, if_neg h]
  | (k, x) :: r => by
    have ih := lookup_putF f g v r
    rw [show putF f v ((k, x) :: r) = (if k = f then (k, v) :: r else (k, x) :: putF f v r) from rfl]
    by_cases hk : k = f
    · rw [if_pos hk]
      by_cases h : g = k
      · have hb : (g == k) = true := beq_iff_eq.mpr h
        simp only [List.lookup, hb, if_pos (h.trans hk)]
      · have hb : (g == k) = false := beq_eq_false_iff_ne.mpr h
        simp only [List.lookup, hb, if_neg (fun e : g = f => h (e.trans hk.symm))]
    · rw [if_neg hk]
      by_cases h : g = k
      · have hb : (g == k) = true := beq_iff_eq.mpr h
        simp only [List.lookup, hb, if_neg (fun e : g = f => hk (h.symm.trans e))]
      · have hb : (g == k) = false := beq_eq_false_iff_ne.mpr h
        simp only [List.lookup, hb]
        exact ih
theorem keys_putF (f : Str) (v : V) : ∀ fs : List (Str × V), f ∈ (putF f v fs).map (·.1) ∧ ∀ g, g ∈ fs.map (·.1) → g ∈ (putF f v fs).map (·.1)
  | [] => ⟨by simp [putF], fun g h => by simp at h⟩
  | (k, x) :: r => by
    obtain ⟨i1, i2⟩ := keys_putF f v r
    rw [show putF f v ((k, x) :: r) = (if k = f then (k, v) :: r else (k, x) :: putF f v r) from rfl]
    by_cases hk : k = f
    · rw [if_pos hk]
      subst hk
      exact ⟨by simp, fun g h => by simpa using h⟩
    · rw [if_neg hk]
      refine ⟨?_, fun g h => ?_⟩
      · rw [List.map_cons]
        exact List.mem_cons_of_mem _ i1
      · rw [List.map_cons] at h ⊢
        rcases List.mem_cons.mp h with e | e
        · exact List.mem_cons.mpr (.inl e)
        · exact List.mem_cons_of_mem _ (i2 g e)
theorem length_putF (f : Str) (v : V) : ∀ fs : List (Str × V), (putF f v fs).length ≤ fs.length + 1
  | [] => by simp [putF]
  | (k, x) :: r => by
    have ih := length_putF f v r
    rw [show putF f v ((k, x) :: r) = (if k = f then (k, v) :: r else (k, x) :: putF f v r) from rfl]
    by_cases hk : k = f
    · rw [if_pos hk, List.length_cons, List.length_cons]; omega
    · rw [if_neg hk, List.length_cons, List.length_cons]; omega

theorem RelO.some_of {v : V} {o : Option Value} (r : RelO (some v) o) : ∃ u, o = some u ∧ RelV v u := by
  cases o with
  | none => exact (show False from r).elim
  | some u => exact ⟨u, rfl, r⟩
theorem RelO.none_of {o : Option Value} (r : RelO none o) : o = none := by
  cases o with
  | none => rfl
  | some u => exact (show False from r).elim
theorem handed_of {v : V} {u : Value} (r : RelV v u) : PySem.W.handedIn u = true := by
  cases v with
  | non => cases (show u = Value.none from r); rfl
  | bl b => cases (show u = Value.bool b from r); rfl
  | int i => obtain ⟨t, e⟩ := (show ∃ t, u = Value.int i t from r); cases e; rfl
  | str x => obtain ⟨t, e⟩ := (show ∃ t, u = Value.str x t from r); cases e; rfl
  | byt b => obtain ⟨t, e⟩ := (show ∃ t, u = Value.bytes b t from r); cases e; rfl
  | flt b => obtain ⟨t, e⟩ := (show ∃ t, u = Value.float b t from r); cases e; rfl
  | ref a => cases (show u = Value.ref a from r); rfl
  | ty n => cases (show u = Value.type n from r); rfl

section
variable {P : Program} {w : World} {H H' : Hp} {h h' : Heap} {a C dx : Addr} {fs fs' : List (Str × V)}
theorem ins_get (hok : HOk P w H h) (e : H a = some (.ins C dx fs)) : ∃ mA, ObjM h a dx C mA ∧ (∀ f, RelO (fs.lookup f) (mA f)) ∧ PySem.Within mA (fs.map (·.1)) ∧ fs.length ≤ 1000 ∧ H dx = some (.own a) := by
  obtain ⟨d, z, ne, ob, mA, n, r, q⟩ := (show ObjOk P w H h a (.ins C dx fs) from hok a _ e)
  exact ⟨mA, ⟨ob, n, ne⟩, r, q, z, d⟩
end

/-! ### what of the text a class must have -/
structure Cls (K : PySem.W.Frag) (C : Addr) : Prop where
  pg : PySem.W.plainGet K C Str.empty = true
  hd : PySem.W.hasDictIn K C = true
  po : PySem.W.plainOver K C = true
  sa : PySem.W.findIn K (.ref C) "__setattr__" = some (some (.builtin "object.__setattr__"))
theorem Cls.get {K : PySem.W.Frag} {C : Addr} (c : Cls K C) (f : Str) : PySem.W.plainGet K C f = true := c.pg
/-- no class of it has the name -/
def NoAttr (K : PySem.W.Frag) (C : Addr) (f : Str) : Prop := PySem.W.findIn K (.ref C) f = some none
theorem NoAttr.taker {K : PySem.W.Frag} {C : Addr} {f : Str} (n : NoAttr K C f) : PySem.W.takerIn K C f = some none := by
  unfold PySem.W.takerIn
  rw [show PySem.W.findIn K (.ref C) f = some none from n]
  rfl
/-- a method: a plain def of the class or of one above it -/
structure Meth (K : PySem.W.Frag) (C : Addr) (m : Str) (f : Addr) : Prop where
  at_ : PySem.W.findIn K (.ref C) m = some (some (.ref f))
  fn : PySem.W.isFn K (.ref f) = true
  kp : PySem.W.keepIn K (.ref f) = true

section
variable {X : Cx} {pins : List (Addr × Obj)} {σ : St} {H : Hp} {s : Shared} {a C dx : Addr} {fs : List (Str × V)} {f : Str} {v : V} {A : Around} {E : Value → Shared → Prop}

theorem getattr_ok {b : Bool} {Q : Value → Shared → Prop} (I : Inv X pins σ H s) (e : H a = some (.ins C dx fs)) (c : Cls X.K C) (n : NoAttr X.K C f) (l : fs.lookup f = some v)
    (h : ∀ u s', Inv X pins σ H s' → RelV v u → Q u s') : wpAny (model X.prog X.w) A (getAttr (.ref a) f b) Q E s := by
  obtain ⟨mA, O, r, _, _, _⟩ := ins_get I.hok e
  obtain ⟨u, hu, ru⟩ := RelO.some_of (v := v) (o := mA f) (by rw [← l]; exact r f)
  exact get_map I.kIn O (c.get f) c.hd n hu (handed_of ru) (h u _ (I.tok _) ru)

theorem getmeth_ok {m : Str} {g : Addr} {pl : Sem Bool} {Q : Value × List Value → Shared → Prop} (I : Inv X pins σ H s) (e : H a = some (.ins C dx fs)) (c : Cls X.K C) (k : Meth X.K C m g) (l : fs.lookup m = none)
    (h : Q (.ref g, [.ref a]) s) : wpAny (model X.prog X.w) A (getMethod (.ref a) m pl) Q E s := by
  obtain ⟨mA, O, r, _, _, _⟩ := ins_get I.hok e
  have hn : mA m = none := RelO.none_of (by rw [← l]; exact r m)
  exact get_meth I.kIn O (c.get m) k.at_ k.fn hn h

theorem setattr_ok {y : V} {u : Value} {Q : Unit → Shared → Prop} (I : Inv X pins σ H s) (e : H a = some (.ins C dx fs)) (c : Cls X.K C) (n : NoAttr X.K C f) (hl : fs.length < 1000) (ry : RelV y u)
    (h : ∀ s', Inv X pins σ (upd H a (.ins C dx (putF f y fs))) s' → Q () s') : wpAny (model X.prog X.w) A (setAttr (.ref a) f u) Q E s := by
  obtain ⟨mA, O, r, wi, _, ho⟩ := ins_get I.hok e
  have hz : (fs.map (·.1)).length ≤ sizeLine := by rw [List.length_map, sizeLine_eq]; omega
  refine set_map I.kIn O c.sa c.po n.taker c.hd wi hz fun h' O' sb => h _ ?_
  have hd : ∃ o, h'.get? dx = some o := let ⟨o, _, _, e', _⟩ := O'.ns; ⟨o, e'⟩
  refine I.write (x := a) (e := dx) (by rw [e]; exact True.intro) (.inr ho) (fun b q hb z => (sb.2 b hb).trans z) hd ?_
  refine ⟨by rw [upd_ne O.ne]; exact ho, ?_, O.ne, O'.obj, _, O'.ns, fun g => ?_, fun g hg => ?_⟩
  · have := length_putF f y fs; omega
  · show RelO ((putF f y fs).lookup g) (if g = f then some u else mA g)
    rw [lookup_putF]
    by_cases q : g = f
    · rw [if_pos q, if_pos q]; exact ry
    · rw [if_neg q, if_neg q]; exact r g
  · by_cases q : g = f
    · rw [q]; exact (keys_putF f y fs).1
    · refine (keys_putF f y fs).2 g (wi g fun z => hg ?_)
      show (if g = f then some u else mA g) = none
      rw [if_neg q]; exact z

/-- a new instance, tracked, without attributes -/
theorem Inv.made (I : Inv X pins σ H s) : Inv X pins σ (upd (upd H s.heap.objs.size (.own (s.heap.objs.size + 1))) (s.heap.objs.size + 1) (.ins C s.heap.objs.size []))
    { s with heap := (s.heap.push PySem.W.emptyDict).push (PySem.W.instObj C s.heap.objs.size) } := by
  have e1 : (s.heap.push PySem.W.emptyDict).get? s.heap.objs.size = some PySem.W.emptyDict := Heap.get?_push_size s.heap rfl
  have e2 : ((s.heap.push PySem.W.emptyDict).push (PySem.W.instObj C s.heap.objs.size)).get? (s.heap.objs.size + 1) = some (PySem.W.instObj C s.heap.objs.size) := by
    have := Heap.get?_push_size (s.heap.push PySem.W.emptyDict) (o := PySem.W.instObj C s.heap.objs.size) rfl
    rwa [Heap.size_push] at this
  have e3 : (s.heap.push PySem.W.emptyDict).Ns s.heap.objs.size (fun _ => none) := ⟨PySem.W.emptyDict, #[], _, e1, rfl, (fun e he => absurd he (by simp)), fun _ => rfl⟩
  have I1 := I.laid (a := s.heap.objs.size) (o := .own (s.heap.objs.size + 1)) (h' := s.heap.push PySem.W.emptyDict) (t' := s.toks) (fun b u q => Heap.get?_push_of_some _ q) (Nat.le_refl _) ⟨_, e1⟩
  refine I1.laid (a := s.heap.objs.size + 1) (o := .ins C s.heap.objs.size []) (t' := s.toks) (fun b u q => Heap.get?_push_of_some _ q) (Nat.le_of_eq (Heap.size_push _ _)) ?_
  have ne : s.heap.objs.size ≠ s.heap.objs.size + 1 := Nat.ne_of_lt (Nat.lt_succ_self _)
  refine ⟨by rw [upd_ne ne, upd_same], Nat.zero_le _, ne, e2, fun _ => none, (Heap.Ns1.of_empty e3).at fun o q => Heap.get?_push_of_some _ q, fun _ => True.intro, fun y hy => absurd rfl hy⟩

/-- e.f where nothing but the object is asked: through attributeBase (super) and the last hold -/
theorem attr_of {prog : Program} {w : World} {env : Env} {e : Expr} {f : Str} {pos : Pos} {s : Shared} {Q : Value → Shared → Prop} (hb : attributeBase e f env (eval e env) = eval e env)
    (h : wpAny (model prog w) A (eval e env) (fun o s₁ => wpAny (model prog w) A (getAttr o f true) Q E s₁) E s) : wpAny (model prog w) A (eval (.Attribute e f pos) env) Q E s :=
  Attribute_any_ h (by rw [arm_eval_Attribute, hb])
end

/-! ### readings and rules -/
/-- e.f, an attribute of the instance -/
def tFld (K : PySem.W.Frag) (ta : TE) (f : Str) : TE := fun σ H Q => ta σ H fun x H1 => ∃ a C dx fs v, x = .ref a ∧ H1 a = some (.ins C dx fs) ∧ Cls K C ∧ NoAttr K C f ∧ fs.lookup f = some v ∧ Q v H1
/-- e.f = value -/
def sFld (K : PySem.W.Frag) (ta tv : TE) (f : Str) : TS := fun D σ H => tv σ H fun y H1 => ta σ H1 fun x H2 => ∃ a C dx fs, x = .ref a ∧ H2 a = some (.ins C dx fs) ∧ Cls K C ∧ NoAttr K C f ∧ fs.length < 1000 ∧
  D.nx σ (upd H2 a (.ins C dx (putF f y fs)))
section
variable {X : Cx} {o e value : Expr} {f : Str} {pos pos' tpos : Pos} {ta tv : TE}
theorem pe_fld (he : PE X e ta) (hb : attributeBase e f X.env (eval e X.env) = eval e X.env) : PE X (.Attribute e f pos) (tFld X.K ta f) := by
  intro pins s σ H Q I h
  refine attr_of hb (thn (he pins s σ H _ I h) fun u s1 ⟨x, H1, I1, rx, a, C, dx, fs, v, ex, ea, c, n, l, q⟩ => ?_)
  subst ex
  obtain rfl : u = Value.ref a := rx
  exact getattr_ok I1 ea c n l fun u' s2 I2 ru => ⟨v, H1, I2, ru, q⟩
theorem ps_fld (ha : PE X o ta) (hv : PE X value tv) (hs : swapsWith value (some (.Attribute o f pos')) pos.line X.env = pure false) : PS X (.Assign [.Attribute o f pos'] value pos) (sFld X.K ta tv f) := by
  intro pins s σ H D I h
  refine plainObj_wpAny_Assign_Attribute (thn (hv pins s σ H _ I h) fun u s1 ⟨y, H1, I1, ry, q⟩ => thn (ha pins s1 σ H1 _ I1 q) fun ov s2 ⟨x, H2, I2, rx, a, C, dx, fs, ex, ea, c, n, l, q2⟩ => ?_) hs
  subst ex
  obtain rfl : ov = Value.ref a := rx
  exact setattr_ok I2 ea c n l ry fun s3 I3 => ⟨σ, _, I3, q2⟩
/-- what is between an instance and its method: the tree of a method call -/
theorem methcall_of {pl : Sem Bool} {m : Str} {apos : Pos} {args : List Expr} {pins : List (Addr × Obj)} {s : Shared} {σ : St} {H : Hp} {Q : Value → Shared → Prop} {te : TE} (he : PE X e te) (I : Inv X pins σ H s)
    (h : te σ H fun x H1 => ∃ a C dx fs g, x = .ref a ∧ H1 a = some (.ins C dx fs) ∧ Cls X.K C ∧ Meth X.K C m g ∧ fs.lookup m = none ∧
      ∀ s1, Inv X pins σ H1 s1 → wpAny (model X.prog X.w) X.A (callWith pos (.ref g) [.ref a] (backTo pos (starEach args X.env)) (backToKw pos (keywordEach [] X.env))) Q X.xe s1)
    (ht : eval (.Call (.Attribute e m apos) args [] pos) X.env = (do
      let ov ← eval e X.env
      standAt apos.atName
      let (f, first) ← holding [ov] (getMethod ov m pl)
      callWith pos f first (backTo pos (starEach args X.env)) (backToKw pos (keywordEach [] X.env)))) :
    wpAny (model X.prog X.w) X.A (eval (.Call (.Attribute e m apos) args [] pos) X.env) Q X.xe s := by
  refine PySem.W.methodCall_KW (pl := pl) (thn (he pins s σ H _ I h) fun u s1 ⟨x, H1, I1, rx, a, C, dx, fs, g, ex, ea, c, k, l, q⟩ => ?_) ht
  subst ex
  obtain rfl : u = Value.ref a := rx
  exact getmeth_ok I1 ea c k l (q s1 I1)
end

/-! ### isinstance -/
section
variable {X : Cx} {pins : List (Addr × Obj)} {σ : St} {H : Hp} {s : Shared} {A : Around} {E : Value → Shared → Prop} {Q : Value → Shared → Prop} {c : Value} {b : Bool}
/-- the type of a value, as the fragment's deciders take it; for an instance its class -/
inductive TyOf (K : PySem.W.Frag) (H : Hp) : V → Value → Prop where
  | non : TyOf K H .non (.type "NoneType")
  | bl (x : Bool) : TyOf K H (.bl x) (.type "bool")
  | int (i : Int) : TyOf K H (.int i) (.type "int")
  | str (x : Str) : TyOf K H (.str x) (.type "str")
  | flt (x : UInt64) : TyOf K H (.flt x) (.type "float")
  | lst {a : Addr} {xs : List V} (e : H a = some (.lst xs)) : TyOf K H (.ref a) (.type "list")
  | frz {a : Addr} {o : Obj} {xs : List V} (e : H a = some (.frz o (.lst xs))) : TyOf K H (.ref a) (.type "list")
  | tup {a : Addr} {xs : List V} (e : H a = some (.tup xs)) : TyOf K H (.ref a) (.type "tuple")
  | dK {a : Addr} {kvs : List (Key × V)} (e : H a = some (.dK kvs)) : TyOf K H (.ref a) (.type "dict")
  | dT {a : Addr} {kvs : List (List Key × V)} (e : H a = some (.dT kvs)) : TyOf K H (.ref a) (.type "dict")
  | ins {a C dx : Addr} {fs : List (Str × V)} (e : H a = some (.ins C dx fs)) (cl : Cls K C) (ha : PySem.W.findIn K (.ref C) "__class__" = some (some (.builtin "object.__class__")))
      (hn : PySem.W.specialIn K (.builtin "object.__class__") "__get__" = some (some (.builtin "getset_descriptor.__get__"))) (htk : PySem.W.takesIn K (.builtin "object.__class__") = some true)
      (hm : PySem.W.mroIn K C (.type "object") = some true) : TyOf K H (.ref a) (.ref C)
/-- isinstance(x, c) for one class c, a built-in or an own one: kitOne's answer -/
theorem isinst_ok {x : V} {u t : Value} (I : Inv X pins σ H s) (rx : RelV x u) (ty : TyOf X.K H x t) (e : PySem.W.kitOne X.K t c = some b) (h : ∀ tk, Q (.bool b) { s with toks := tk }) :
    wpAny (model X.prog X.w) A (call (.builtin "isinstance") [u, c]) Q E s := by
  cases ty with
  | non => cases (show u = Value.none from rx); exact PySem.W.kia_one PySem.W.kitx_none I.kIn True.intro e (fun z => nomatch z) h
  | bl y => cases (show u = Value.bool y from rx); exact PySem.W.kia_one PySem.W.kitx_bool I.kIn True.intro e (fun z => nomatch z) h
  | int i => obtain ⟨t, q⟩ := (show ∃ t, u = Value.int i t from rx); cases q; exact PySem.W.kia_one PySem.W.kitx_int I.kIn True.intro e (fun z => nomatch z) h
  | str y => obtain ⟨t, q⟩ := (show ∃ t, u = Value.str y t from rx); cases q; exact PySem.W.kia_one PySem.W.kitx_str I.kIn True.intro e (fun z => nomatch z) h
  | flt y => obtain ⟨t, q⟩ := (show ∃ t, u = Value.float y t from rx); cases q; exact PySem.W.kia_one PySem.W.kitx_float I.kIn True.intro e (fun z => nomatch z) h
  | @lst a xs ea =>
    cases (show u = Value.ref a from rx)
    obtain ⟨_, _, n, _, h1⟩ := (show ObjOk X.prog X.w H s.heap a (.lst xs) from I.hok a _ ea)
    exact PySem.W.kia_one PySem.W.kitx_list I.kIn ⟨_, h1, rfl⟩ e (fun z => nomatch z) h
  | @frz a ob xs ea =>
    cases (show u = Value.ref a from rx)
    obtain ⟨_, _, _, n, _, h1⟩ := (show ObjOk X.prog X.w H s.heap a (.frz ob (.lst xs)) from I.hok a _ ea)
    exact PySem.W.kia_one PySem.W.kitx_list I.kIn ⟨_, h1, rfl⟩ e (fun z => nomatch z) h
  | @tup a xs ea =>
    cases (show u = Value.ref a from rx)
    obtain ⟨_, _, _, p⟩ := (show ObjOk X.prog X.w H s.heap a (.tup xs) from I.hok a _ ea)
    obtain ⟨o, h1, h2, _⟩ := p
    exact PySem.W.kia_one PySem.W.kitx_tuple I.kIn ⟨o, h1, h2⟩ e (fun z => nomatch z) h
  | @dK a kvs ea =>
    cases (show u = Value.ref a from rx)
    obtain ⟨_, _, vs, _, p⟩ := (show ObjOk X.prog X.w H s.heap a (.dK kvs) from I.hok a _ ea)
    obtain ⟨o, es, ep, h1, h2, _⟩ := p
    exact PySem.W.kia_one PySem.W.kitx_dict I.kIn ⟨o, h1, h2.1⟩ e (fun z => nomatch z) h
  | @dT a kvs ea =>
    cases (show u = Value.ref a from rx)
    obtain ⟨_, _, xs, _, o, es, ep, h1, h2, _⟩ := (show ObjOk X.prog X.w H s.heap a (.dT kvs) from I.hok a _ ea)
    exact PySem.W.kia_one PySem.W.kitx_dict I.kIn ⟨o, h1, h2.1⟩ e (fun z => nomatch z) h
  | @ins a C dx fs ea cl ha hn htk hm =>
    cases (show u = Value.ref a from rx)
    obtain ⟨mA, O, _⟩ := ins_get I.hok ea
    obtain ⟨od, J, _⟩ := O.look
    exact PySem.W.kia_one (PySem.W.kitx_own (cl.get _) cl.hd ha hn htk hm) I.kIn J e (fun z => nomatch z) h
end
end L2

namespace L2
open PySem PySem.Spec PyProof.Rows

/-! ### room -/
structure Room (k : Nat) (A : Around) : Prop where
  hd : A.handled = none
  dp : A.depth + 3 * k + 5 < recursionLimit
  un : A.units + 16 * k + 200 < cLine
theorem Room.mono {j k : Nat} {A : Around} (r : Room k A) (h : j ≤ k) : Room j A := ⟨r.hd, by have := r.dp; omega, by have := r.un; omega⟩
theorem Room.deeper {k : Nat} {A : Around} (r : Room (k + 1) A) (env : Env) : Room k (A.deeper env) :=
  ⟨r.hd, by have := r.dp; show A.depth + 1 + 3 * k + 5 < _; omega, by have := r.un; show A.units + 3 + 16 * k + 200 < _; omega⟩
theorem make_depth {A : Around} {C : Addr} {us : List Value} {kw : List (Str × Value)} : (A.under (.builtin "type.__call__" ⟨.ref C :: us, kw⟩)).depth = A.depth + 1 := by
  first | rfl | simp [Around.under, Code.weight, Code.isCreation, Code.isGuard, Code.isCaller, Code.frames, Code.isFrame, guardIds]
theorem make_units {A : Around} {C : Addr} {us : List Value} {kw : List (Str × Value)} : (A.under (.builtin "type.__call__" ⟨.ref C :: us, kw⟩)).units = A.units + 1 := by
  first | rfl | simp [Around.under, Code.cUnits, Code.frames, Code.isFrame]
theorem Room.make {k : Nat} {A : Around} (r : Room (k + 1) A) (C : Addr) (us : List Value) (kw : List (Str × Value)) : Room k (A.under (.builtin "type.__call__" ⟨.ref C :: us, kw⟩)) :=
  ⟨r.hd, by have := r.dp; rw [make_depth]; omega, by have := r.un; rw [make_units]; omega⟩
theorem Room.depth {k : Nat} {A : Around} (r : Room k A) : A.depth < recursionLimit := by have := r.dp; omega
theorem Room.units {k : Nat} {A : Around} (r : Room k A) : A.units + 64 < cLine := by have := r.un; omega
/-! ### argument lists and displays -/
def tNil : TA := fun _ H Q => Q [] H
def tCons (ta : TE) (tr : TA) : TA := fun σ H Q => ta σ H fun x H1 => tr σ H1 fun xs H2 => Q (x :: xs) H2
section
variable {X : Cx} {e : Expr} {es : List Expr} {te : TE} {t : TA} {pos : Pos}
theorem pa_nil : PA X [] tNil := fun _ _ _ _ H Q I h => Calls.spliced_nil ⟨[], H, I, .nil, h⟩
theorem pa_cons (ha : PE X e te) (hr : PA X es t) (hs : starEach (e :: es) X.env = (false, eval e X.env) :: starEach es X.env := by rfl) : PA X (e :: es) (tCons te t) := by
  intro pos pins s σ H Q I h
  rw [hs]
  show wpAny _ _ (spliced ((false, eval e X.env) :: backTo pos (starEach es X.env))) _ _ s
  refine Calls.spliced_cons (thn (ha pins s σ H _ I h) fun u s1 ⟨x, H1, I1, r1, q1⟩ => ?_)
  exact thn (hr pos pins s1 σ H1 _ I1 q1) fun us s2 ⟨xs, H2, I2, r2, q2⟩ => ⟨x :: xs, H2, I2, .cons r1 r2, q2⟩

/-- a tuple, a list of written items -/
def tTup (t : TA) : TE := fun σ H Q => t σ H fun xs H1 => xs.length ≤ sizeLine ∧ ∀ p, H1 p = none → Q (.ref p) (upd H1 p (.tup xs))
def tLst (t : TA) : TE := fun σ H Q => t σ H fun xs H1 => xs.length ≤ sizeLine ∧ ∀ p, H1 p = none → Q (.ref p) (upd H1 p (.lst xs))
theorem pe_tup {x1} (h : PA X es t) : PE X (.Tuple es x1 pos) (tTup t) := by
  intro pins s σ H Q I hq
  refine wpAny_Tuple_spliced (thn (h pos pins s σ H _ I hq) fun us s1 ⟨xs, H1, I1, r, z, q⟩ => ⟨by rw [← r.length]; exact z, ?_⟩)
  have hf : H1 s1.heap.objs.size = none := I1.hok.fresh (Nat.le_refl _)
  refine ⟨.ref s1.heap.objs.size, upd H1 s1.heap.objs.size (.tup xs), I1.laid (t' := s1.toks) (fun b u e => Heap.get?_push_of_some _ e) (Nat.le_refl _) ?_, rfl, q _ hf⟩
  exact ⟨z, us, r, ⟨_, Heap.get?_push_size _ rfl, rfl, _, rfl⟩⟩
theorem pe_lst (h : PA X es t) : PE X (.List es pos) (tLst t) := by
  intro pins s σ H Q I hq
  refine wpAny_List_spliced (thn (h pos pins s σ H _ I hq) fun us s1 ⟨xs, H1, I1, r, z, q⟩ => ⟨by rw [← r.length]; exact z, ?_⟩)
  have hf : H1 s1.heap.objs.size = none := I1.hok.fresh (Nat.le_refl _)
  refine ⟨.ref s1.heap.objs.size, upd H1 s1.heap.objs.size (.lst xs), I1.laid (t' := s1.toks) (fun b u e => Heap.get?_push_of_some _ e) (Nat.le_refl _) ?_, rfl, q _ hf⟩
  exact ⟨z, us, 0, r, Heap.get?_push_size _ rfl⟩
end

/-! ### what a def promises -/
/-- a def's promise: the bound arguments in the parameters' order, the heap, the wanted end, the wanted exception -/
abbrev Sp := List V → Hp → VK → XK → Prop
/-- how an exception lies behind a call (file 08 gives it): the callers' frames, abstract heap and state ahead of the call, the wish, the exception, the state -/
abbrev CXT := List Env → Hp → Shared → XK → Value → Shared → Prop

/-- the state at a call -/
structure Env0 (P : Program) (w : World) (K : PySem.W.Frag) (mg : Str → Option Value) (base : Heap) (A : Around) (outer : List Env) (s : Shared) (H : Hp) : Prop where
  frames : A.frames = some outer
  mod : Mod K mg base
  bs : ∀ b o, base.get? b = some o → s.heap.get? b = some o ∧ H b = none
  bsz : base.objs.size ≤ s.heap.objs.size
  funs : s.heap.FunFrames base outer
  frf : ∀ b ∈ frs outer, H b = none
  hok : HOk P w H s.heap
  bare : AllBare s.gens
/-- a call's end -/
def CE (outer : List Env) (P : Program) (w : World) (H : Hp) (s : Shared) (Q : VK) (u : Value) (s' : Shared) : Prop :=
  ∃ v H', s'.os = s.os ∧ AllBare s'.gens ∧ Un (frs outer) [] H H' s.heap s'.heap ∧ HOk P w H' s'.heap ∧ RelV v u ∧ Q v H'
def CR (CX : CXT) (outer : List Env) (P : Program) (w : World) (H : Hp) (s : Shared) (Q : VK) (E : XK) (r : Result) (s' : Shared) : Prop :=
  match r with
  | .ok (.ret u) => CE outer P w H s Q u s'
  | .ok _ => False
  | .error e => CX outer H s E e s'
structure FnOk (P : Program) (w : World) (K : PySem.W.Frag) (mg : Str → Option Value) (base : Heap) (CX : CXT) (k : Nat) (f : Addr) (fd : FuncData) (ps : List Str) (sp : Sp) : Prop where
  len : ∀ vs H Q E, sp vs H Q E → vs.length = ps.length
  run : ∀ (A : Around) (outer : List Env) (s : Shared) (H : Hp) (args : Args) (us : List Value) (vs : List V) (Q : VK) (E : XK), Room k A → Env0 P w K mg base A outer s H → BindsTo s fd args (ps.zip us) → Vals vs us → sp vs H Q E →
    codeAny (model P w) A (.call (.ref f) args) (CR CX outer P w H s Q E) s
theorem FnOk.mono {P : Program} {w : World} {K : PySem.W.Frag} {mg : Str → Option Value} {base : Heap} {CX : CXT} {j k : Nat} {f : Addr} {fd : FuncData} {ps : List Str} {sp : Sp} (F : FnOk P w K mg base CX j f fd ps sp) (h : j ≤ k) :
    FnOk P w K mg base CX k f fd ps sp := ⟨F.len, fun A outer s H args us vs Q E hr => F.run A outer s H args us vs Q E (hr.mono h)⟩
/-- a weaker promise -/
theorem FnOk.imp {P : Program} {w : World} {K : PySem.W.Frag} {mg : Str → Option Value} {base : Heap} {CX : CXT} {k : Nat} {f : Addr} {fd : FuncData} {ps : List Str} {sp sp' : Sp} (F : FnOk P w K mg base CX k f fd ps sp)
    (h : ∀ vs H Q E, sp' vs H Q E → sp vs H Q E) : FnOk P w K mg base CX k f fd ps sp' :=
  ⟨fun vs H Q E q => F.len vs H Q E (h _ _ _ _ q), fun A outer s H args us vs Q E hr he hb hv hs => F.run A outer s H args us vs Q E hr he hb hv (h _ _ _ _ hs)⟩

theorem Env0.make {P : Program} {w : World} {K : PySem.W.Frag} {mg : Str → Option Value} {base : Heap} {A : Around} {outer : List Env} {s : Shared} {H : Hp} (e : Env0 P w K mg base A outer s H) (C : Addr) (us : List Value) (kw : List (Str × Value)) :
    Env0 P w K mg base (A.under (.builtin "type.__call__" ⟨.ref C :: us, kw⟩)) outer s H := ⟨by first | exact e.frames | (simpa [Around.under, Code.envs, Code.isFrame, pushEnvs] using e.frames), e.mod, e.bs, e.bsz, e.funs, e.frf, e.hok, e.bare⟩
section
variable {X : Cx} {pins : List (Addr × Obj)} {σ : St} {H : Hp} {s s' : Shared}
/-- from a body: what a callee wants -/
theorem Inv.env0 (I : Inv X pins σ H s) : Env0 X.prog X.w X.K X.mg X.base X.A X.stack s H :=
  ⟨I.ok.frames, I.ok.mod, I.bs, Nat.le_trans I.ok.bsz I.sz, I.stack, I.stkFree, I.hok, I.bare⟩
/-- behind a call -/
theorem Inv.after {Q : VK} {u : Value} (I : Inv X pins σ H s) (h : CE X.stack X.prog X.w H s Q u s') : EP X pins σ Q u s' := by
  obtain ⟨v, H', os, bare, un, hok, r, q⟩ := h
  obtain ⟨hh, g, d, t, os'⟩ := s'
  obtain rfl : os' = s.os := os
  exact ⟨v, H', I.call (h' := hh) (g' := g) (d' := d) (t' := t) (ch := []) un hok bare (fun b z => absurd z (by simp)), r, q⟩
end

/-! ### calls -/
/-- f(..): the written arguments, then the defaults dvs; E: what is wanted of an exception -/
def tCall (sp : Sp) (dvs : List V) (E : XK) (t : TA) : TE := fun σ H Q => t σ H fun vs H1 => sp (vs ++ dvs) H1 Q E
/-- o.m(..) of an instance of the class at C -/
def tMeth (C : Addr) (m : Str) (sp : Sp) (dvs : List V) (E : XK) (ta : TE) (t : TA) : TE := fun σ H Q => ta σ H fun x H1 => ∃ a dx fs, x = .ref a ∧ H1 a = some (.ins C dx fs) ∧ fs.lookup m = none ∧
  t σ H1 fun vs H2 => sp (x :: (vs ++ dvs)) H2 Q E
/-- C(..): a new instance and its dict, then __init__ -/
def tMake (C : Addr) (sp : Sp) (dvs : List V) (E : XK) (t : TA) : TE := fun σ H Q => t σ H fun vs H1 => ∀ x dx, H1 x = none → H1 dx = none → dx ≠ x →
  sp (.ref x :: (vs ++ dvs)) (upd (upd H1 dx (.own x)) x (.ins C dx [])) (fun v H2 => v = .non ∧ Q (.ref x) H2) E

/-- how the parameters are bound: us the positional arguments, kw the keywords' values by name, ds the defaults that fill up -/
def Binds (K : PySem.W.Frag) (fd : FuncData) (ps : List Str) (ds : List Value) : Prop :=
  ∀ (s : Shared) (us : List Value), K.In s.heap → (us ++ ds).length = ps.length → BindsTo s fd ⟨us, []⟩ (ps.zip (us ++ ds))
/-- every parameter is given -/
theorem Binds.all {K : PySem.W.Frag} {fd : FuncData} {ps : List Str} (h : ∀ us : List Value, us.length = ps.length → bindArgs fd ⟨us, []⟩ = pure (ps.zip us)) : Binds K fd ps [] := fun s us _ hl => by
  rw [List.append_nil] at hl ⊢
  exact .of_eq (h us hl)

/-- an exception of a callee reaches what this body wants of exceptions -/
def Passes (CX : CXT) (X : Cx) (E : XK) : Prop := ∀ (pins : List (Addr × Obj)) (σ : St) (H : Hp) (s : Shared) (e : Value) (s' : Shared), Inv X pins σ H s → CX X.stack H s E e s' → X.xe e s'

section
variable {X : Cx} {CX : CXT} {k : Nat} {f C : Addr} {fd : FuncData} {ps : List Str} {sp : Sp} {dvs : List V} {ds : List Value} {E : XK} {x m : Str} {p pos apos : Pos} {e o : Expr} {es : List Expr} {ta : TE} {t : TA}

/-- the callee runs -/
theorem run_fn {pins : List (Addr × Obj)} {σ : St} {H : Hp} {s : Shared} {Q : VK} {us : List Value} {vs : List V} (F : FnOk X.prog X.w X.K X.mg X.base CX k f fd ps sp) (hr : Room k X.A) (hb : Binds X.K fd ps ds) (hd : Vals dvs ds) (hx : Passes CX X E)
    (I : Inv X pins σ H s) (r : Vals vs us) (h : sp (vs ++ dvs) H Q E) : wpAny (model X.prog X.w) X.A (call (.ref f) us) (EP X pins σ Q) X.xe s := by
  have r2 : Vals (vs ++ dvs) (us ++ ds) := r.append hd
  have hl : (us ++ ds).length = ps.length := by rw [← r2.length]; exact F.len _ _ _ _ h
  refine wpAny_call (codeAny_mono (F.run X.A X.stack s H ⟨us, []⟩ (us ++ ds) (vs ++ dvs) Q E hr I.env0 (hb s us I.kIn hl) r2 h) fun r s' hq => ?_)
  cases r with
  | error e => exact hx pins σ H s e s' I hq
  | ok fl =>
    cases fl with
    | ret u => exact I.after hq
    | next => exact False.elim hq
    | brk => exact False.elim hq
    | cont => exact False.elim hq

theorem pe_call (F : FnOk X.prog X.w X.K X.mg X.base CX k f fd ps sp) (hr : Room k X.A) (hg : Gl X x) (hm : X.mg x = some (.ref f)) (hk : PySem.W.keepIn X.K (.ref f) = true) (hb : Binds X.K fd ps ds) (hd : Vals dvs ds) (hx : Passes CX X E)
    (ha : PA X (e :: es) t) (hdb : (x == ("__debug__" : Str)) = false := by decide) (he : starEach (e :: es) X.env = (false, eval e X.env) :: starEach es X.env := by rfl) (hpl : (backTo pos (starEach es X.env)).any (·.1) = false := by rfl) :
    PE X (.Call (.Name x p) (e :: es) [] pos) (tCall sp dvs E t) := by
  intro pins s σ H Q I h
  refine wpAny_Call_Name_kw (ld_glob I hg hm ?_ hdb)
  refine PySem.W.callWith_K (h₀ := X.base) I.ok.mod.kin hk (thn (ha pos pins s σ H _ I h) fun us s1 ⟨vs, H1, I1, r, q⟩ => ⟨I1.kIn, ?_⟩) he hpl
  exact run_fn F hr hb hd hx I1 r q
/-- o.m(e, ..) -/
theorem pe_meth {pl : Sem Bool} (he : PE X o ta) (c : Cls X.K C) (hm : Meth X.K C m f) (F : FnOk X.prog X.w X.K X.mg X.base CX k f fd ps sp) (hr : Room k X.A) (hb : Binds X.K fd ps ds) (hd : Vals dvs ds) (hx : Passes CX X E) (ha : PA X (e :: es) t)
    (hst : starEach (e :: es) X.env = (false, eval e X.env) :: starEach es X.env := by rfl) (hpl : (backTo pos (starEach es X.env)).any (·.1) = false := by rfl)
    (ht : eval (.Call (.Attribute o m apos) (e :: es) [] pos) X.env = (do
      let ov ← eval o X.env
      standAt apos.atName
      let (f, first) ← holding [ov] (getMethod ov m pl)
      callWith pos f first (backTo pos (starEach (e :: es) X.env)) (backToKw pos (keywordEach [] X.env))) := by rfl) :
    PE X (.Call (.Attribute o m apos) (e :: es) [] pos) (tMeth C m sp dvs E ta t) := by
  intro pins s σ H Q I h
  refine PySem.W.methodCall_KW (pl := pl) (thn (he pins s σ H _ I h) fun u s1 ⟨x, H1, I1, rx, a, dx, fs, ex, ea, l, q⟩ => ?_) ht
  subst ex
  obtain rfl : u = Value.ref a := rx
  refine getmeth_ok I1 ea c hm l ?_
  refine PySem.W.callWith_K (first := [.ref a]) (h₀ := X.base) I.ok.mod.kin hm.kp (thn (ha pos pins s1 σ H1 _ I1 q) fun us s2 ⟨vs, H2, I2, r, q2⟩ => ⟨I2.kIn, ?_⟩) hst hpl
  exact run_fn (us := .ref a :: us) (vs := .ref a :: vs) F hr hb hd hx I2 (.cons rfl r) q2
/-- what a class must have to be made -/
structure Mk (K : PySem.W.Frag) (C f : Addr) : Prop where
  makes : PySem.W.makesIn K C = true
  init : PySem.W.findIn K (.ref C) "__init__" = some (some (.ref f))
  fn : PySem.W.isFn K (.ref f) = true
  kp : PySem.W.keepIn K (.ref C) = true

theorem run_make {pins : List (Addr × Obj)} {σ : St} {H : Hp} {s : Shared} {Q : VK} {us : List Value} {vs : List V} (M : Mk X.K C f) (F : FnOk X.prog X.w X.K X.mg X.base CX k f fd ps sp) (hr : Room (k + 1) X.A) (hb : Binds X.K fd ps ds) (hd : Vals dvs ds)
    (hx : Passes CX X E) (I : Inv X pins σ H s) (r : Vals vs us)
    (h : ∀ x dx, H x = none → H dx = none → dx ≠ x → sp (.ref x :: (vs ++ dvs)) (upd (upd H dx (.own x)) x (.ins C dx [])) (fun v H2 => v = .non ∧ Q (.ref x) H2) E) :
    wpAny (model X.prog X.w) X.A (call (.ref C) us) (EP X pins σ Q) X.xe s := by
  have hq := h (s.heap.objs.size + 1) s.heap.objs.size (I.hok.fresh (Nat.le_succ _)) (I.hok.fresh (Nat.le_refl _)) (Nat.ne_of_lt (Nat.lt_succ_self _))
  have I2 := Inv.made (C := C) I
  have r2 : Vals (V.ref (s.heap.objs.size + 1) :: (vs ++ dvs)) (Value.ref (s.heap.objs.size + 1) :: (us ++ ds)) := .cons rfl (r.append hd)
  have hl : (Value.ref (s.heap.objs.size + 1) :: us ++ ds).length = ps.length := by
    have e := r2.length
    rw [F.len _ _ _ _ hq] at e
    exact e.symm
  refine wpAny_call (make_map (f := f) I.kIn M.makes M.init (beq_iff_eq.mp M.fn) (codeAny_mono (F.run _ X.stack _ _ ⟨Value.ref (s.heap.objs.size + 1) :: us, []⟩ (Value.ref (s.heap.objs.size + 1) :: (us ++ ds)) _ _ E (hr.make C us [])
    (I2.env0.make C us []) (hb _ (Value.ref (s.heap.objs.size + 1) :: us) I2.kIn hl) r2 hq) fun r s' hq' => ?_))
  cases r with
  | error e => exact hx pins σ _ _ e s' I2 hq'
  | ok fl =>
    cases fl with
    | ret u =>
      obtain ⟨v, H', I3, rv, ev, q3⟩ := I2.after hq'
      subst ev
      exact ⟨rv, ⟨V.ref (s.heap.objs.size + 1), H', I3, rfl, q3⟩⟩
    | next => exact False.elim hq'
    | brk => exact False.elim hq'
    | cont => exact False.elim hq'
theorem pe_make0 (M : Mk X.K C f) (F : FnOk X.prog X.w X.K X.mg X.base CX k f fd ps sp) (hr : Room (k + 1) X.A) (hg : Gl X x) (hm : X.mg x = some (.ref C)) (hb : Binds X.K fd ps ds) (hd : Vals dvs ds) (hx : Passes CX X E)
    (hdb : (x == ("__debug__" : Str)) = false := by decide) : PE X (.Call (.Name x p) [] [] pos) (tMake C sp dvs E tNil) := by
  intro pins s σ H Q I h
  refine wpAny_Call_Name_kw (ld_glob I hg hm ?_ hdb)
  exact PySem.W.callWith_K0 I.kIn M.kp (run_make (us := []) M F hr hb hd hx I .nil h)
end

section
variable {X : Cx} {CX : CXT} {k : Nat} {f C : Addr} {fd : FuncData} {ps ks : List Str} {sp : Sp} {E : XK} {x m : Str} {p pos apos kpos : Pos} {e o : Expr} {es : List Expr} {kws : List Keyword} {te ta : TE} {t tk : TA} {nm : Option Str}
variable {g : List Value → List Value → List Value} {gV : List V → List V → List V}
end

/-! ### a def's body keeps its promise -/
/-- names: the parameters first -/
structure FnScope (N P : List Str) (sc : Scope) : Prop where
  kind : sc.kind = .function
  co : sc.isCoroutine = false
  gen : sc.isGenerator = false
  nd : N.Nodup
  pre : N.take P.length = P
  par : ∀ x ∈ P, sc.names.lookup x = some .local ∨ sc.names.lookup x = some .cell
  nofree : ∀ y ∈ sc.names, y.2 ≠ .free

theorem bindL_out {kindOf : Str → Option NameKind} {x : Str} : ∀ {binds : List (Str × Value)} {m : Str → Option Value}, (∀ v, (x, v) ∉ binds) → bindL kindOf binds m x = m x
  | [], _, _ => rfl
  | (n, v) :: r, m, h => by
    unfold bindL
    rw [bindL_out fun w hw => h w (List.mem_cons_of_mem _ hw)]
    split
    · have : x ≠ n := by rintro rfl; exact h v List.mem_cons_self
      simp [this]
    · rfl
theorem bindC_out {kindOf : Str → Option NameKind} {x : Str} : ∀ {binds : List (Str × Value)} {m : Str → Option Value}, (∀ v, (x, v) ∉ binds) → bindC kindOf binds m x = m x
  | [], _, _ => rfl
  | (n, v) :: r, m, h => by
    unfold bindC
    rw [bindC_out fun w hw => h w (List.mem_cons_of_mem _ hw)]
    split
    · rfl
    · have : x ≠ n := by rintro rfl; exact h v List.mem_cons_self
      simp [this]
theorem bindL_get {kindOf : Str → Option NameKind} {x : Str} {v : Value} : ∀ {P : List Str} {vs : List Value} {i : Nat} {m : Str → Option Value}, P.Nodup → P[i]? = some x → vs[i]? = some v → kindOf x = some .local →
    bindL kindOf (P.zip vs) m x = some v
  | [], _, _, _, _, h, _, _ => by simp at h
  | _ :: _, [], _, _, _, _, h, _ => by simp at h
  | p :: P, w :: vs, 0, m, nd, h1, h2, hk => by
    simp at h1 h2; subst h1; subst h2
    show bindL kindOf ((p, w) :: P.zip vs) m p = _
    unfold bindL
    rw [bindL_out fun v hv => (List.nodup_cons.mp nd).1 (List.of_mem_zip hv).1, if_pos hk]
    simp
  | p :: P, w :: vs, i + 1, m, nd, h1, h2, hk => by
    show bindL kindOf ((p, w) :: P.zip vs) m x = _
    unfold bindL
    exact bindL_get (i := i) (List.nodup_cons.mp nd).2 (by simpa using h1) (by simpa using h2) hk
theorem bindC_get {kindOf : Str → Option NameKind} {x : Str} {v : Value} : ∀ {P : List Str} {vs : List Value} {i : Nat} {m : Str → Option Value}, P.Nodup → P[i]? = some x → vs[i]? = some v → kindOf x ≠ some .local →
    bindC kindOf (P.zip vs) m x = some v
  | [], _, _, _, _, h, _, _ => by simp at h
  | _ :: _, [], _, _, _, _, h, _ => by simp at h
  | p :: P, w :: vs, 0, m, nd, h1, h2, hk => by
    simp at h1 h2; subst h1; subst h2
    show bindC kindOf ((p, w) :: P.zip vs) m p = _
    unfold bindC
    rw [bindC_out fun v hv => (List.nodup_cons.mp nd).1 (List.of_mem_zip hv).1, if_neg hk]
    simp
  | p :: P, w :: vs, i + 1, m, nd, h1, h2, hk => by
    show bindC kindOf ((p, w) :: P.zip vs) m x = _
    unfold bindC
    exact bindC_get (i := i) (List.nodup_cons.mp nd).2 (by simpa using h1) (by simpa using h2) hk

/-- the names' values at the entry -/
def start (N : List Str) (vs : List V) : St := vs.map some ++ List.replicate (N.length - vs.length) none

/-- the context of a def's body, at its entry; an exception leaves the frame, then lies as CX says -/
def cxOf (CX : CXT) (P : Program) (w : World) (K : PySem.W.Frag) (mg : Str → Option Value) (base : Heap) (N : List Str) (qual : Str) (scope : Scope) (f : Addr) (cd : Value) (A : Around) (outer : List Env) (s : Shared) (H : Hp) (E : XK) : Cx where
  prog := P
  w := w
  K := K
  mg := mg
  base := base
  A := A.deeper (envOfC qual scope s.heap.objs.size f cd)
  N := N
  s₀ := s
  H₀ := H
  env := envOfC qual scope s.heap.objs.size f cd
  outer := outer
  stack := envOfC qual scope s.heap.objs.size f cd :: outer
  ex := []
  calm := true
  fn := fun _ => true
  pn := []
  xe := fun e s' => wpAny (model P w) (A.deeper (envOfC qual scope s.heap.objs.size f cd)) (leaving (envOfC qual scope s.heap.objs.size f cd) e) (fun _ s'' => CX outer H s E e s'') (fun e' s'' => CX outer H s E e' s'') s'

theorem cell_has {sc : Scope} {n : Nat} {x : Str} (h : sc.names.lookup x = some .cell) : ∃ c, (cellsFrom n sc.names []).lookup x = some c := by
  have q := PySem.W.cellsFrom_some sc.names n [] (.inl h)
  exact Option.isSome_iff_exists.mp q

theorem inv_start {CX : CXT} {P : Program} {w : World} {K : PySem.W.Frag} {mg : Str → Option Value} {base : Heap} {N ps : List Str} {qual : Str} {scope : Scope} {f : Addr} {cd : Value} {A : Around} {outer : List Env} {s s1 : Shared} {H : Hp} {E : XK} {us : List Value} {vs : List V}
    (S : FnScope N ps scope) (hd : A.handled = none) (e0 : Env0 P w K mg base A outer s H) (hl : vs.length = ps.length) (r : Vals vs us)
    (x : InCallC s s.heap.objs.size (bindL (envOfC qual scope s.heap.objs.size f cd).kindOf (ps.zip us) fun _ => none) (cellsFrom (s.heap.objs.size + 1) scope.names []) (bindC (envOfC qual scope s.heap.objs.size f cd).kindOf (ps.zip us) fun _ => none) s1) :
    Inv (cxOf CX P w K mg base N qual scope f cd A outer s H E) [] (start N vs) H s1 := by
  have hpl : ps.length ≤ N.length := by have := congrArg List.length S.pre; rw [List.length_take] at this; omega
  obtain ⟨h1, tk, rfl, hk⟩ := x.done
  have noA : ∀ b : Addr, b ∉ (cxOf CX P w K mg base N qual scope f cd A outer s H E).ex := fun b z => absurd (show b ∈ ([] : List Addr) from z) (by simp)
  refine ⟨⟨e0.mod, S.kind, rfl, rfl, Nat.le_refl _, fun y z c h1 h2 => ?_, fun y hy => ?_, fun y c _ h => ?_, fun _ => hd, Around.frames_deeper e0.frames, .inr ⟨rfl, rfl⟩, fun b z => absurd z (noA b), e0.bs, e0.bsz, fun b _ _ => noA b, fun b z => absurd z (noA b), e0.funs, e0.frf⟩,
    rfl, e0.bare, Un.kept hk, ⟨_, x.toInCall.ns, fun i y v h1 h2 h3 => ?_⟩, fun y c h => ⟨_, x.cell y c h⟩, e0.hok.fresh (Nat.le_refl _), fun y c h => ?_, fun p hp => absurd (show p ∈ ([] : List (Addr × Obj)) from hp) (by simp), e0.hok.kept hk, ?_⟩
  · exact name_of_addr x.apart (PySem.mem_of_lookup h1) (PySem.mem_of_lookup h2)
  · have hy : scope.names.lookup y = some .cell ∨ scope.names.lookup y = some .free := hy
    rcases hy with hy | hy
    · exact cell_has hy
    · exact absurd rfl (S.nofree _ (PySem.mem_of_lookup hy))
  · exact Nat.le_of_lt (x.above y c (PySem.mem_of_lookup h))
  · have hi : i < vs.length := by
      unfold start at h2
      by_cases hi : i < vs.length
      · exact hi
      · rw [List.getElem?_append_right (by simpa using hi)] at h2
        rw [List.getElem?_replicate] at h2
        split at h2 <;> cases h2
    have ha : vs[i]? = some v := by
      unfold start at h2
      rw [List.getElem?_append_left (by simpa using hi), List.getElem?_map] at h2
      cases e : vs[i]? with
      | none => rw [e] at h2; cases h2
      | some a => rw [e] at h2; cases h2; rfl
    obtain ⟨u, hu, rv⟩ := r.get ha
    have hp : ps[i]? = some y := by
      rw [← S.pre, List.getElem?_take_of_lt (by omega)]; exact h1
    have ndP : ps.Nodup := by rw [← S.pre]; exact S.nd.sublist (List.take_sublist _ _)
    refine ⟨u, rv, ?_⟩
    rcases S.par y (List.mem_of_getElem? hp) with k | k
    · exact .inl ⟨k, bindL_get ndP hp hu k⟩
    · obtain ⟨c, e⟩ := cell_has (n := s.heap.objs.size + 1) k
      refine .inr ⟨.inl k, c, e, ?_⟩
      have q := x.cell y c e
      rw [bindC_get ndP hp hu (by show scope.names.lookup y ≠ _; rw [k]; decide)] at q
      exact q
  · exact e0.hok.fresh (Nat.le_of_lt (x.above y c (PySem.mem_of_lookup h)))
  · unfold start
    show _ = N.length
    rw [List.length_append, List.length_map, List.length_replicate]
    omega

/-- THE RULE: a def (or a method) of the text, by its body. The body's reading t is chosen for each entry; it is run at the parameters' values -/
theorem fn_of {CX : CXT} {P : Program} {w : World} {K : PySem.W.Frag} {mg : Str → Option Value} {base : Heap} {k : Nat} {f : Addr} {name qual : Str} {params : Arguments} {body : List Stmt} {scope : Scope} {dV kV doc pm cdv ct oc : Value} {an od : Option Addr}
    {osl : Array (Option Value)} {N ps : List Str} {sp : Sp} (lk : K.lookup f = some ⟨oc, od, .func (PySem.W.fnOf name qual params body scope dV kV doc pm an cdv ct), osl⟩) (hcd : PySem.W.codeIn K cdv qual = true) (S : FnScope N ps scope)
    (len : ∀ vs H Q E, sp vs H Q E → vs.length = ps.length)
    (hbody : ∀ (A : Around) (outer : List Env) (s : Shared) (H : Hp) (vs : List V) (Q : VK) (E : XK), Room k (A.deeper (envOfC qual scope s.heap.objs.size f cdv)) → sp vs H Q E →
      ∃ t, PSs (cxOf CX P w K mg base N qual scope f cdv A outer s H E) body t ∧ t { nx := fun _ H' => Q .non H', rt := Q } (start N vs) H) :
    FnOk P w K mg base CX (k + 1) f (PySem.W.fnOf name qual params body scope dV kV doc pm an cdv ct) ps sp := by
  refine ⟨len, fun A outer s H args us vs Q E hr e0 hb r hsp => ?_⟩
  have hl := len _ _ _ _ hsp
  have KX : K.In s.heap := e0.mod.kin.keeps fun b o e => (e0.bs b o e).1
  have lim : s.heap.NoLimit := e0.mod.nolimit.keeps fun b o e => (e0.bs b o e).1
  have hkind : ∀ y ∈ ps.zip us, scope.names.lookup y.1 = some .local ∨ (scope.names.lookup y.1 = some .cell ∧ ((cellsFrom (s.heap.objs.size + 1) scope.names []).lookup y.1).isSome = true) := fun ⟨n, v⟩ hy => by
    rcases S.par n (List.of_mem_zip hy).1 with q | q
    · exact .inl q
    · exact .inr ⟨q, PySem.W.cellsFrom_some _ _ _ (.inl q)⟩
  refine codeAny_call_function hr.depth (KX _ _ lk) rfl S.co S.gen rfl (PySem.W.codeRec_of KX hcd) (hb _ _ _ _ ?_)
  refine wpAny_newFunctionEnv_cells S.kind hkind fun env he s1 x => ?_
  subst he
  refine ⟨lim.keeps x.toInCall.keep, codeAny_func ?_⟩
  obtain ⟨t, ht, hq⟩ := hbody A outer s H vs Q E (hr.deeper _) hsp
  have I : Inv (cxOf CX P w K mg base N qual scope f cdv A outer s H E) [] (start N vs) H s1 := inv_start S hr.hd e0 hl r x
  refine wpAny_mono (ht [] s1 (start N vs) H _ I hq) (fun fl s' hs => ?_) fun e s' hs => hs
  have fin : ∀ {σ' : St} {H' : Hp} {v : V} {u : Value}, Inv (cxOf CX P w K mg base N qual scope f cdv A outer s H E) [] σ' H' s' → RelV v u → Q v H' → CE outer P w H s Q u s' :=
    fun {σ' H' v u} J rv q => ⟨v, H', J.os, J.bare, J.base, J.hok, rv, q⟩
  cases fl with
  | ret u =>
    obtain ⟨v, σ', H', J, rv, q⟩ := hs
    exact fin J rv q
  | next =>
    obtain ⟨σ', H', J, q⟩ := hs
    exact fin (v := V.non) (u := Value.none) J rfl q
  | brk =>
    obtain ⟨_, _, _, q⟩ := hs
    exact False.elim q
  | cont =>
    obtain ⟨_, _, _, q⟩ := hs
    exact False.elim q
end L2

namespace L2
open PySem PySem.Spec PyProof.Rows
section
variable {X : Cx} {x : Str} {p pos : Pos} {e : Expr} {es : List Expr} {t : TA} {id T : String} {r : List V → Hp → VK → Prop}

def tCB (r : List V → Hp → VK → Prop) (t : TA) : TE := fun σ H Q => t σ H fun vs H1 => r vs H1 Q
/-- f(e, ..), f a built-in function -/
theorem pe_callB (hc : CallR X (.builtin id) r) (hg : Gl X x) (hm : X.mg x = none) (hv : bootBuiltins x = some (.builtin id)) (ha : PA X (e :: es) t) (hn : x ≠ "__name__" := by decide) (hdb : (x == ("__debug__" : Str)) = false := by decide)
    (he : starEach (e :: es) X.env = (false, eval e X.env) :: starEach es X.env := by rfl) (hpl : (backTo pos (starEach es X.env)).any (·.1) = false := by rfl) : PE X (.Call (.Name x p) (e :: es) [] pos) (tCB r t) := by
  intro pins s σ H Q I h
  refine wpAny_Call_Name_kw (ld_blt I hg hm hv ?_ hn hdb)
  exact PyProof.Rows.callWith_builtin1 (thn (ha pos pins s σ H _ I h) fun us s1 ⟨vs, H1, I1, r1, q1⟩ => hc pins s1 σ H1 vs us Q I1 r1 q1) he hpl
/-- T(e, ..), T a built-in type -/
theorem pe_callTy (hc : CallR X (.type T) r) (hg : Gl X x) (hm : X.mg x = none) (hv : bootBuiltins x = some (.type T)) (ha : PA X (e :: es) t) (hn : x ≠ "__name__" := by decide) (hdb : (x == ("__debug__" : Str)) = false := by decide)
    (he : starEach (e :: es) X.env = (false, eval e X.env) :: starEach es X.env := by rfl) (hpl : (backTo pos (starEach es X.env)).any (·.1) = false := by rfl) : PE X (.Call (.Name x p) (e :: es) [] pos) (tCB r t) := by
  intro pins s σ H Q I h
  refine wpAny_Call_Name_kw (ld_blt I hg hm hv ?_ hn hdb)
  exact PyProof.Rows.callWith_type1 (thn (ha pos pins s σ H _ I h) fun us s1 ⟨vs, H1, I1, r1, q1⟩ => hc pins s1 σ H1 vs us Q I1 r1 q1) he hpl
end
end L2

namespace HT
open PySem PyProof.Rows

section
open PySem.SeqAt
open PySem.AutoSeq1 (wpAny_loadPart')
open PySem.MeetsSeq PySem.MeetsSeq2 PySem.MeetsSeq3

end

section
variable {prog : Program} {w : World} {A : Around} {E : Value → Shared → Prop} {s : Shared}

/-! ### t[a:b], not the whole -/
/-- a slice's bound as a place among n (d where it is left out) -/
def sIx (n d : Nat) : Option Int → Nat
  | none => d
  | some v => if v < 0 then (v + (n : Int)).toNat else min v.toNat n
theorem sIx_nat (n d k : Nat) : sIx n d (some (k : Int)) = min k n := by
  show (if (k : Int) < 0 then ((k : Int) + (n : Int)).toNat else min (k : Int).toNat n) = min k n
  rw [if_neg (by omega), Int.toNat_natCast]
end
end HT

namespace L2
open PySem PySem.Spec PyProof.Rows

/-! ### the parts of a slice -/
abbrev TO := St → Hp → (Option Int → Hp → Prop) → Prop
/-- a slice's part (left out, or an int) -/
def PO (X : Cx) (e : Option Expr) (t : TO) : Prop :=
  ∀ (pins : List (Addr × Obj)) (s : Shared) (σ : St) (H : Hp) (Q : Option Int → Hp → Prop), Inv X pins σ H s → t σ H Q →
    wpAny (model X.prog X.w) X.A (evalPart e X.env) (fun u s' => ∃ o H', Inv X pins σ H' s' ∧ IsPart u o ∧ Q o H') X.xe s
def tNoPart : TO := fun _ H Q => Q none H
def tPart (t : TE) : TO := fun σ H Q => t σ H fun x H1 => ∃ i, x = .int i ∧ Q (some i) H1

section
variable {X : Cx} {e : Expr} {te : TE} {lo hi : Option Expr} {tl th : TO} {pos p2 : Pos}

theorem po_none : PO X none tNoPart := by
  intro pins s σ H Q I h
  rw [evalPart_none]
  exact wpAny_pure ⟨none, H, I, .none, h⟩
theorem po_some (h : PE X e te) : PO X (some e) (tPart te) := by
  intro pins s σ H Q I hw
  rw [evalPart_some]
  refine thn (h pins s σ H _ I hw) fun u s1 ⟨x, H1, I1, r1, q1⟩ => ?_
  obtain ⟨i, rfl, q⟩ := q1
  obtain ⟨t, rfl⟩ := r1
  exact ⟨some i, H1, I1, .int i t, q⟩

/-- what a slice of a value is, by values: the slice object stands at sl -/
def SlR (X : Cx) (r : V → Option Int → Option Int → Hp → VK → Prop) : Prop :=
  ∀ (pins : List (Addr × Obj)) (s : Shared) (σ : St) (H : Hp) (x : V) (v vl vu : Value) (lo hi : Option Int) (sl : Addr) (Q : VK), Inv X pins σ H s → RelV x v → s.heap.IsSliceOf sl vl vu .none → IsPart vl lo → IsPart vu hi → r x lo hi H Q →
    ∃ T id, typeLookup (.type T) "__getitem__" = pure (some (.builtin id)) ∧ s.TypeIs v T ∧ wpAny (model X.prog X.w) X.A (getItem v (.ref sl)) (EP X pins σ Q) X.xe s
def tSl (r : V → Option Int → Option Int → Hp → VK → Prop) (te : TE) (tl th : TO) : TE := fun σ H Q => te σ H fun x H1 => tl σ H1 fun l H2 => th σ H2 fun u H3 => r x l u H3 Q
/-- a[lo:hi], any a -/
theorem pe_slice {r : V → Option Int → Option Int → Hp → VK → Prop} (hr : SlR X r) (he : PE X e te) (hl : PO X lo tl) (hu : PO X hi th) : PE X (.Subscript e (.Slice lo hi none p2) pos) (tSl r te tl th) := by
  intro pins s σ H Q I h
  refine Subscript_ (thn (he pins s σ H _ I h) fun v s1 ⟨x, H1, I1, r1, q1⟩ => ?_)
  refine wpAny_Slice (thn (hl pins s1 σ H1 _ I1 q1) fun vl s2 ⟨l, H2, I2, pl, q2⟩ => thn (hu pins s2 σ H2 _ I2 q2) fun vu s3 ⟨u, H3, I3, pu, q3⟩ => ?_)
  rw [evalPart_none]
  refine wpAny_pure ?_
  have I4 : Inv X pins σ H3 { s3 with heap := s3.heap.push { cls := .type "slice", data := .fields #[vl, vu, .none] } } := I3.kept (t' := s3.toks) fun b ob q => Heap.get?_push_of_some _ q
  obtain ⟨T, id, hT, ht, hg⟩ := hr pins { s3 with heap := s3.heap.push { cls := .type "slice", data := .fields #[vl, vu, .none] } } σ H3 x v vl vu l u s3.heap.objs.size Q I4 r1 (Heap.IsSliceOf.new ..) pl pu q3
  show wpAny (model X.prog X.w) X.A (subscriptTail e (.Slice lo hi none p2) v (.ref s3.heap.objs.size)) (EP X pins σ Q) X.xe { s3 with heap := s3.heap.push { cls := .type "slice", data := .fields #[vl, vu, .none] } }
  exact tail_any (ops := [.ref s3.heap.objs.size, v]) ht hT hg (by with_unfolding_all rfl)

/-- the items of xs[lo:hi] -/
def cutV (xs : List V) (lo hi : Option Int) : List V := (xs.drop (HT.sIx xs.length 0 lo)).take (HT.sIx xs.length xs.length hi - HT.sIx xs.length 0 lo)
theorem cutV_length (xs : List V) (lo hi : Option Int) : (cutV xs lo hi).length ≤ xs.length := by
  unfold cutV
  rw [List.length_take, List.length_drop]
  omega
end
end L2

namespace L2
open PySem PySem.Spec PyProof.Rows

/-! ### places -/
/-- the place that an index of any sign means -/
def ixN (n : Nat) (i : Int) : Option Nat := if 0 ≤ i then (if i < n then some i.toNat else none) else if -(n : Int) ≤ i then some (i + n).toNat else none
def atI {α : Type} (xs : List α) (i : Int) : Option α := (ixN xs.length i).bind fun j => xs[j]?
theorem ixN_seq {n : Nat} {i : Int} {j : Nat} (h : ixN n i = some j) : seqIndex? i n = some j ∧ j < n ∧ -(n : Int) ≤ i ∧ i < n := by
  unfold ixN at h
  by_cases h0 : 0 ≤ i
  · rw [if_pos h0] at h
    by_cases h1 : i < n
    · rw [if_pos h1] at h
      have e : i.toNat = j := Option.some.inj h
      exact ⟨by rw [seqIndex_of h0 h1, e], by omega, by omega, h1⟩
    · rw [if_neg h1] at h; cases h
  · rw [if_neg h0] at h
    by_cases h1 : -(n : Int) ≤ i
    · rw [if_pos h1] at h
      have e : (i + n).toNat = j := Option.some.inj h
      exact ⟨by rw [seqIndex_neg (by omega) h1, e], by omega, h1, by omega⟩
    · rw [if_neg h1] at h; cases h
theorem atI_get {α : Type} {xs : List α} {i : Int} {v : α} (h : atI xs i = some v) : ∃ j, seqIndex? i xs.length = some j ∧ xs[j]? = some v ∧ j < xs.length ∧ -(xs.length : Int) ≤ i ∧ i < xs.length := by
  unfold atI at h
  cases e : ixN xs.length i with
  | none => rw [e] at h; cases h
  | some j =>
    rw [e] at h
    obtain ⟨h1, h2, h3, h4⟩ := ixN_seq e
    exact ⟨j, h1, h, h2, h3, h4⟩
theorem atI_nat {α : Type} {xs : List α} {j : Nat} {v : α} (h : xs[j]? = some v) : atI xs (j : Int) = some v := by
  have hj : j < xs.length := (List.getElem?_eq_some_iff.mp h).1
  have e : ixN xs.length (j : Int) = some j := by
    unfold ixN
    rw [if_pos (by omega), if_pos (by omega)]; simp
  unfold atI; rw [e]; exact h
/-! ### what may be subscripted -/
/-- what stands as an index of a plain subscript -/
def PlainIx (b : Expr) : Prop := ∀ o i, subscripted b false o i = operate [o, i] (getItem o i)
/-- a subscript by values -/
def IxR (X : Cx) (r : R2) : Prop :=
  ∀ (value slice : Expr) (pins : List (Addr × Obj)) (s : Shared) (σ : St) (H : Hp) (x y : V) (v u : Value) (Q : VK), Inv X pins σ H s → RelV x v → RelV y u → r x y H Q →
    subscripted slice false v u = operate [v, u] (getItem v u) → wpAny (model X.prog X.w) X.A (subscriptTail value slice v u) (EP X pins σ Q) X.xe s
/-- a call of a builtin's method by values: the receiver, the arguments -/
def MtR (X : Cx) (id : String) (r : V → List V → Hp → VK → Prop) : Prop :=
  ∀ (pins : List (Addr × Obj)) (s : Shared) (σ : St) (H : Hp) (x : V) (xs : List V) (v : Value) (us : List Value) (Q : VK), Inv X pins σ H s → RelV x v → Vals xs us → r x xs H Q →
    wpAny (model X.prog X.w) X.A (call (.builtin id) (v :: us)) (EP X pins σ Q) X.xe s
section
variable {X : Cx} {a b : Expr} {ta tb : TE} {pos : Pos}
theorem IxR.or {r r' : R2} (h : IxR X r) (h' : IxR X r') : IxR X (fun x y H Q => r x y H Q ∨ r' x y H Q) := by
  intro value slice pins s σ H x y v u Q I rx ry q hs
  rcases q with q | q
  · exact h value slice pins s σ H x y v u Q I rx ry q hs
  · exact h' value slice pins s σ H x y v u Q I rx ry q hs
/-- a[b] -/
theorem pe_ix {r : R2} (hr : IxR X r) (ha : PE X a ta) (hb : PE X b tb) (hs : PlainIx b) : PE X (.Subscript a b pos) (tOp r ta tb) := by
  intro pins s σ H Q I h
  exact Subscript_ (binT ha hb I h fun v u s2 x y H2 I2 rx ry q => hr a b pins s2 σ H2 x y v u Q I2 rx ry q (hs _ _))

def rIxL (K : PySem.W.Frag) : R2 := fun x y H Q => ∃ p xs i v, x = .ref p ∧ y = .int i ∧ SqL K H p xs ∧ atI xs i = some v ∧ Q v H
def rIxT (K : PySem.W.Frag) : R2 := fun x y H Q => ∃ p xs i v, x = .ref p ∧ y = .int i ∧ SqT K H p xs ∧ atI xs i = some v ∧ Q v H
theorem ix_list : IxR X (rIxL X.K) := by
  intro value slice pins s σ H x y v u Q I rx ry h hs
  obtain ⟨p, xs, i, z, rfl, rfl, hq, he, q⟩ := h
  cases rx
  obtain ⟨t, rfl⟩ := ry
  obtain ⟨its, r, pl, hz⟩ := I.list hq
  obtain ⟨j, h1, h2, h3, h4, h5⟩ := atI_get he
  obtain ⟨w, ew, rw'⟩ := r.get h2
  have hl := r.length
  have hn := line63
  have fin : EP X pins σ Q w s := ⟨z, H, I, rw', q⟩
  by_cases h0 : 0 ≤ i
  · have hj : i.toNat = j := by
      rw [seqIndex_of h0 h5] at h1
      exact Option.some.inj h1
    exact item_listR pl.isList h0 (by omega) (by rw [hj]; simpa using ew) fin hs
  · have hj : (i + (its.toArray.size : Int)).toNat = j := by
      rw [seqIndex_neg (by omega) h4] at h1
      rw [List.size_toArray, ← hl]
      exact Option.some.inj h1
    exact subscriptTail_builtinR (x := w) pl.isList.typeIs slot_list_getitem.lookup
      (wpAny_getItem_list_neg (Q := fun r s' => r = w ∧ EP X pins σ Q r s') pl.isList (by omega) (by rw [List.size_toArray] <;> omega) (by omega) (by rw [hj]; simpa using ew) ⟨rfl, fin⟩) hs
theorem ix_tup : IxR X (rIxT X.K) := by
  intro value slice pins s σ H x y v u Q I rx ry h hs
  obtain ⟨p, xs, i, z, rfl, rfl, hq, he, q⟩ := h
  cases rx
  obtain ⟨t, rfl⟩ := ry
  obtain ⟨its, r, pl, hz⟩ := I.tuple hq
  obtain ⟨j, h1, h2, h3, h4, h5⟩ := atI_get he
  obtain ⟨w, ew, rw'⟩ := r.get h2
  have hl := r.length
  have hn := line63
  have fin : EP X pins σ Q w s := ⟨z, H, I, rw', q⟩
  exact subscriptTail_builtinR (x := w) pl.typeIs slot_tuple_getitem.lookup
    (getItem_tuple (j := j) (Q := fun r s' => r = w ∧ EP X pins σ Q r s') pl (by omega) (by omega) (by rw [List.size_toArray, ← hl]; exact h1) (by simpa using ew) ⟨rfl, fin⟩) hs
/-! ### xs[i] = v, any sign -/
/-- the list's object behind a store -/
theorem mapSeq_set (its : List Value) (n j : Nat) (u : Value) : Obj.mapSeq (·.setIfInBounds j u) { cls := .type "list", data := .seq its.toArray n } = { cls := .type "list", data := .seq (its.set j u).toArray n } := by
  simp [Obj.mapSeq]
theorem Inv.lst {pins : List (Addr × Obj)} {σ : St} {H : Hp} {s : Shared} {p : Addr} {xs : List V} (I : Inv X pins σ H s) (h : H p = some (.lst xs)) :
    ∃ (its : List Value) (n : Nat), Vals xs its ∧ s.heap.get? p = some { cls := .type "list", data := .seq its.toArray n } ∧ xs.length ≤ sizeLine := by
  obtain ⟨z, its, n, r, e⟩ := I.hok p _ h
  exact ⟨its, n, r, e, z⟩
/-- the list at p is written by an update of its object -/
theorem Inv.lstUpd {pins : List (Addr × Obj)} {σ : St} {H : Hp} {s : Shared} {p : Addr} {xs ys : List V} {its its' : List Value} {n n' : Nat} {f : Obj → Obj} (I : Inv X pins σ H s) (h : H p = some (.lst xs))
    (ho : s.heap.get? p = some { cls := .type "list", data := .seq its.toArray n }) (hf : f { cls := .type "list", data := .seq its.toArray n } = { cls := .type "list", data := .seq its'.toArray n' }) (r : Vals ys its') (hz : ys.length ≤ sizeLine) (t : Nat) :
    Inv X pins σ (upd H p (.lst ys)) { s with heap := s.heap.update p f, toks := t } := by
  have e : (s.heap.update p f).get? p = some { cls := .type "list", data := .seq its'.toArray n' } := by
    rw [Heap.get?_update_self f ho (by rw [hf] <;> rfl), hf]
  refine I.write (x := p) (e := p) (by rw [h]; trivial) (.inl rfl) (fun b u hb q => (Heap.get?_update_other _ _ (Ne.symm hb)).trans q) ⟨_, e⟩ ?_
  exact ⟨hz, its', n', r, e⟩
def rSetL : V → V → V → Hp → (Hp → Prop) → Prop := fun o i v H Q => ∃ p xs k j, o = .ref p ∧ i = .int k ∧ H p = some (.lst xs) ∧ ixN xs.length k = some j ∧ Q (upd H p (.lst (xs.set j v)))
theorem set_list : PSet X rSetL := by
  intro pins s σ H o i v ov iv u Q I ro ri rv h
  obtain ⟨p, xs, k, j, rfl, rfl, hp, hj, q⟩ := h
  cases ro
  obtain ⟨t, rfl⟩ := ri
  obtain ⟨its, n, r, ho, hz⟩ := I.lst hp
  obtain ⟨h1, h2, h3, h4⟩ := ixN_seq hj
  have hl := r.length
  have hn := line63
  have I' : Inv X pins σ (upd H p (.lst (xs.set j v))) { s with heap := s.heap.update p (Obj.mapSeq (·.setIfInBounds j u)) } :=
    I.lstUpd hp ho (mapSeq_set its n j u) (r.set rv j) (by rw [List.length_set]; exact hz) s.toks
  by_cases h0 : 0 ≤ k
  · have hk : k.toNat = j := by
      rw [seqIndex_of h0 h4] at h1
      exact Option.some.inj h1
    exact PySem.W.ki_setAt ho h0 (by omega) (by rw [List.size_toArray, ← hl]; exact h4) (by rw [hk]; exact ⟨_, I', q⟩)
  · have hk : (k + (its.toArray.size : Int)).toNat = j := by
      rw [seqIndex_neg (by omega) h3] at h1
      rw [List.size_toArray, ← hl]
      exact Option.some.inj h1
    exact PySem.W.ki_setBack ho (by omega) (by rw [List.size_toArray, ← hl]; exact h3) (by omega) (by rw [hk]; exact ⟨_, I', q⟩)

/-! ### slices -/
theorem slice_bounds (lo hi : Option Int) (n : Nat) : (sliceBounds lo hi none n).1 = ((HT.sIx n 0 lo : Nat) : Int) ∧ (sliceBounds lo hi none n).2.1 = ((HT.sIx n n hi : Nat) : Int) ∧ (sliceBounds lo hi none n).2.2 = 1 := by
  refine ⟨?_, ?_, rfl⟩
  · cases lo with
    | none => simp [sliceBounds, HT.sIx]
    | some i =>
      simp only [sliceBounds, HT.sIx, Option.getD_none, show (1 : Int) > 0 by decide, if_true]
      by_cases h : i < 0
      · simp only [h, if_true] <;> omega
      · simp only [h, if_false] <;> omega
  · cases hi with
    | none => simp [sliceBounds, HT.sIx]
    | some i =>
      simp only [sliceBounds, HT.sIx, Option.getD_none, show (1 : Int) > 0 by decide, if_true]
      by_cases h : i < 0
      · simp only [h, if_true] <;> omega
      · simp only [h, if_false] <;> omega
theorem slicePick_cut (its : List Value) (lo hi : Option Int) : slicePick its.toArray lo hi none = ((its.drop (HT.sIx its.length 0 lo)).take (HT.sIx its.length its.length hi - HT.sIx its.length 0 lo)).toArray := by
  obtain ⟨h1, h2, h3⟩ := slice_bounds lo hi its.toArray.size
  unfold slicePick
  rw [h1, h2, h3]
  simp only [sliceRange_one, pick_run, List.size_toArray] <;> rfl
/-- xs[lo:hi] of a list: a new list -/
def rSlL (K : PySem.W.Frag) : V → Option Int → Option Int → Hp → VK → Prop := fun x lo hi H Q => ∃ a xs, x = .ref a ∧ SqL K H a xs ∧ ∀ p, H p = none → Q (.ref p) (upd H p (.lst (cutV xs lo hi)))
theorem sl_list : SlR X (rSlL X.K) := by
  intro pins s σ H x v vl vu lo hi sl Q I rx hs pl pu h
  obtain ⟨a, xs, rfl, hx, q⟩ := h
  cases rx
  obtain ⟨its, r, ht, hz⟩ := I.list hx
  have hlen := r.length
  refine ⟨"list", _, slot_list_getitem.lookup, ht.isList.typeIs, ?_⟩
  refine wpAny_getItem_list_slice ht.isList hs pl pu .none (by simp) ?_ (by rw [List.size_toArray] <;> omega)
  rw [slicePick_cut, ← hlen]
  refine ⟨.ref s.heap.objs.size, _, I.laid (t' := s.toks) (o := .lst (cutV xs lo hi)) (fun b ob q => Heap.get?_push_of_some _ q) (Nat.le_refl _) ?_, rfl, q _ (I.hok.fresh (Nat.le_refl _))⟩
  exact ⟨Nat.le_trans (cutV_length xs lo hi) hz, _, 0, (r.drop (HT.sIx xs.length 0 lo)).take (HT.sIx xs.length xs.length hi - HT.sIx xs.length 0 lo), Heap.get?_push_size _ rfl⟩

/-! ### in, not in: flat items -/
def flatV : V → Bool
  | .non => true
  | .bl _ => true
  | .int _ => true
  | .str _ => true
  | _ => false
/-- == of flat values -/
def eqV : V → V → Bool
  | .non, .non => true
  | .bl a, .bl b => a == b
  | .bl a, .int b => (if a then 1 else 0) == b
  | .int a, .bl b => a == (if b then 1 else 0)
  | .int a, .int b => a == b
  | .str a, .str b => a == b
  | _, _ => false
theorem eqAt_V {A : Around} {s : Shared} {y x : V} {u v : Value} (ry : RelV y u) (rx : RelV x v) (fy : flatV y = true) (fx : flatV x = true) : SeqAt.EqAt A s u v (eqV y x) := by
  cases y with
  | non =>
    cases ry
    cases x with
    | non => cases rx; exact SeqAt.EqAt.same _
    | bl b => cases rx; exact SeqAt.EqAt.none_bool b
    | int b => obtain ⟨t, rfl⟩ := rx; exact SeqAt.EqAt.none_int b t
    | str b => obtain ⟨t, rfl⟩ := rx; exact SeqAt.EqAt.none_str b t
    | _ => exact absurd (show false = true from fx) Bool.false_ne_true
  | bl a =>
    cases ry
    cases x with
    | non => cases rx; exact SeqAt.EqAt.bool_none a
    | bl b => cases rx; exact SeqAt.EqAt.bool_bool a b
    | int b => obtain ⟨t, rfl⟩ := rx; exact SeqAt.EqAt.bool_int a b t
    | str b => obtain ⟨t, rfl⟩ := rx; exact SeqAt.EqAt.bool_str a b t
    | _ => exact absurd (show false = true from fx) Bool.false_ne_true
  | int a =>
    obtain ⟨t', rfl⟩ := ry
    cases x with
    | non => cases rx; exact SeqAt.EqAt.int_none a t'
    | bl b => cases rx; exact SeqAt.EqAt.int_bool a t' b
    | int b => obtain ⟨t, rfl⟩ := rx; exact SeqAt.EqAt.int_int a t' b t
    | str b => obtain ⟨t, rfl⟩ := rx; exact SeqAt.EqAt.int_str a t' b t
    | _ => exact absurd (show false = true from fx) Bool.false_ne_true
  | str a =>
    obtain ⟨t', rfl⟩ := ry
    cases x with
    | non => cases rx; exact SeqAt.EqAt.str_none a t'
    | bl b => cases rx; exact SeqAt.EqAt.str_bool a t' b
    | int b => obtain ⟨t, rfl⟩ := rx; exact SeqAt.EqAt.str_int a t' b t
    | str b => obtain ⟨t, rfl⟩ := rx; exact SeqAt.EqAt.str_str a t' b t
    | _ => exact absurd (show false = true from fx) Bool.false_ne_true
  | _ => exact absurd (show false = true from fy) Bool.false_ne_true
/-- the items' answers, read off the values (a value's own answer does not lean on its token) -/
def eqU (x : V) (u : Value) : Bool := match u with
  | .none => eqV .non x
  | .bool b => eqV (.bl b) x
  | .int i _ => eqV (.int i) x
  | .str z _ => eqV (.str z) x
  | _ => false
theorem eqU_of {x y : V} {u : Value} (r : RelV y u) (f : flatV y = true) : eqU x u = eqV y x := by
  cases y with
  | non => cases r; rfl
  | bl b => cases r; rfl
  | int i => obtain ⟨t, rfl⟩ := r; rfl
  | str z => obtain ⟨t, rfl⟩ := r; rfl
  | _ => exact absurd (show false = true from f) Bool.false_ne_true
theorem any_eqU {x : V} : ∀ {xs : List V} {us : List Value}, Vals xs us → xs.all flatV = true → us.any (eqU x) = xs.any fun y => eqV y x
  | _, _, .nil, _ => rfl
  | y :: xs, u :: us, .cons r t, f => by
    rw [List.all_cons, Bool.and_eq_true] at f
    rw [List.any_cons, List.any_cons, eqU_of r f.1, any_eqU t f.2]
theorem mem_eqAt {A : Around} {s : Shared} {x : V} {v : Value} (rx : RelV x v) (fx : flatV x = true) : ∀ {xs : List V} {us : List Value}, Vals xs us → xs.all flatV = true → ∀ u ∈ us, SeqAt.EqAt A s u v (eqU x u)
  | _, _, .nil, _ => fun u hu => by cases hu
  | y :: xs, u :: us, .cons r t, f => fun u' hu => by
    rw [List.all_cons, Bool.and_eq_true] at f
    rcases List.mem_cons.mp hu with rfl | hu
    · rw [eqU_of r f.1]; exact eqAt_V r rx f.1 fx
    · exact mem_eqAt rx fx t f.2 u' hu
def inV (x : V) (xs : List V) : Bool := xs.any fun y => eqV y x
/-- x in a list or tuple of flat items -/
def rIn (K : PySem.W.Frag) (neg : Bool) : R2 := fun x y H Q => ∃ p xs, y = .ref p ∧ (SqL K H p xs ∨ SqT K H p xs) ∧ flatV x = true ∧ xs.all flatV = true ∧ Q (.bl (if neg then !inV x xs else inV x xs)) H
theorem op_in_seq : OpR X (compareOp .In) (rIn X.K false) := by
  intro pins s σ H x y v u Q I rx ry h
  obtain ⟨p, xs, rfl, hq, fx, fs, q⟩ := h
  cases ry
  rcases hq with hq | hq
  · obtain ⟨its, r, pl, hz⟩ := I.list hq
    refine SeqAt.in_listAt (eqU x) pl.isList (fun w hw => mem_eqAt rx fx r fs w (by simpa using hw)) ⟨.bl _, H, I, rfl, ?_⟩
    rw [show its.toArray.any (eqU x) = its.any (eqU x) by simp, any_eqU r fs]
    exact q
  · obtain ⟨its, r, pl, hz⟩ := I.tuple hq
    refine SeqAt.in_tupleAt (eqU x) pl (fun w hw => mem_eqAt rx fx r fs w (by simpa using hw)) ⟨.bl _, H, I, rfl, ?_⟩
    rw [show its.toArray.any (eqU x) = its.any (eqU x) by simp, any_eqU r fs]
    exact q
/-! ### len, list(x), tuple(x) of any list or tuple that is read -/
theorem call_len_seq : CallR X (.builtin "len") (fun xs H Q => ∃ p ys, xs = [.ref p] ∧ (SqL X.K H p ys ∨ SqT X.K H p ys) ∧ Q (.int ys.length) H) := by
  intro pins s σ H xs us Q I r h
  obtain ⟨p, ys, rfl, hq, q⟩ := h
  obtain ⟨u, rfl, rx⟩ := vals1 r
  cases rx
  have hn := line63
  rcases hq with hq | hq
  · obtain ⟨its, r', pl, hz⟩ := I.list hq
    have hlen := r'.length
    exact Calls.call_len_list pl.isList (by simp only [List.size_toArray] <;> omega) ⟨.int ys.length, H, I.tok _, ⟨s.toks + 1, by rw [List.size_toArray, hlen]⟩, q⟩
  · obtain ⟨its, r', pl, hz⟩ := I.tuple hq
    have hlen := r'.length
    exact len_tuple pl (by simp only [List.size_toArray] <;> omega) ⟨.int ys.length, H, I.tok _, ⟨s.toks + 1, by rw [List.size_toArray, hlen]⟩, q⟩
/-! ### the call of a builtin's method: o.m(..) -/
/-- the value is of that builtin type -/
def tyV (K : PySem.W.Frag) (T : String) (x : V) (H : Hp) : Prop := match x with
  | .str _ => T = "str"
  | .int _ => T = "int"
  | .ref p => (T = "list" ∧ ∃ xs, SqL K H p xs) ∨ (T = "tuple" ∧ ∃ o, K.lookup p = some o ∧ o.cls = .type "tuple" ∧ o.dict = none) ∨
      (T = "dict" ∧ ((∃ kvs, H p = some (.dK kvs)) ∨ ∃ kvs, H p = some (.dT kvs))) ∨ (T = "set" ∧ ∃ S n, H p = some (.set S n))
  | _ => False
theorem tyV_is {pins : List (Addr × Obj)} {σ : St} {H : Hp} {s : Shared} {T : String} {x : V} {v : Value} (I : Inv X pins σ H s) (r : RelV x v) (ty : tyV X.K T x H) :
    s.TypeIs v T ∧ ∀ a, v = .ref a → ∃ ob, s.heap.get? a = some ob ∧ ob.dict = none := by
  cases x with
  | str z =>
    obtain ⟨t, rfl⟩ := r
    cases (show T = "str" from ty)
    exact ⟨typeIs_str s z t, fun _ e => nomatch e⟩
  | int i =>
    obtain ⟨t, rfl⟩ := r
    cases (show T = "int" from ty)
    exact ⟨typeIs_int s i t, fun _ e => nomatch e⟩
  | ref p =>
    cases r
    rcases ty with ⟨rfl, xs, hq⟩ | ⟨rfl, o, hk, hc, hd⟩ | ⟨rfl, hk⟩ | ⟨rfl, S, n, hk⟩
    · obtain ⟨its, _, pl, _⟩ := I.list hq
      refine ⟨pl.isList.typeIs, fun a e => ?_⟩
      cases e
      obtain ⟨o, n, e, c, hd, _⟩ := pl
      exact ⟨o, e, hd⟩
    · refine ⟨⟨o, I.kIn p o hk, hc⟩, fun a e => ?_⟩
      cases e
      exact ⟨o, I.kIn _ o hk, hd⟩
    · have z : ∃ o, s.heap.get? p = some o ∧ o.ExactDict := by
        rcases hk with ⟨kvs, hk⟩ | ⟨kvs, hk⟩
        · obtain ⟨_, _, _, _, o, _, _, e, ex, _⟩ := I.hok p _ hk
          exact ⟨o, e, ex⟩
        · obtain ⟨_, _, _, _, o, _, _, e, ex, _⟩ := I.hok p _ hk
          exact ⟨o, e, ex⟩
      obtain ⟨o, e, ex⟩ := z
      refine ⟨⟨o, e, ex.1⟩, fun a e2 => ?_⟩
      cases e2
      exact ⟨o, e, ex.2.1⟩
    · obtain ⟨o, _, _, _, e, ex, _⟩ := I.hok p _ hk
      refine ⟨⟨o, e, ex.1⟩, fun a e2 => ?_⟩
      cases e2
      exact ⟨o, e, ex.2.1⟩
  | _ => exact False.elim ty
def tBM0 (K : PySem.W.Frag) (T : String) (r : V → List V → Hp → VK → Prop) (to : TE) : TE := fun σ H Q => to σ H fun x H1 => tyV K T x H1 ∧ r x [] H1 Q
def tBM (K : PySem.W.Frag) (T : String) (r : V → List V → Hp → VK → Prop) (to : TE) (t : TA) : TE := fun σ H Q => to σ H fun x H1 => tyV K T x H1 ∧ t σ H1 fun xs H2 => r x xs H2 Q
variable {o e : Expr} {es : List Expr} {to : TE} {t : TA} {name : Str} {apos cpos : Pos} {T id : String} {r : V → List V → Hp → VK → Prop}
/- xs.append(e), list.index on a module's tuple .. are MtR facts of 06m -/
end
end L2

namespace L2
open PySem PySem.Spec PyProof.Rows

def MtM (X : Cx) (id : String) (r : V → List V → Hp → VK → Prop) : Prop :=
  ∀ (pins : List (Addr × Obj)) (s : Shared) (σ : St) (H : Hp) (x : V) (xs : List V) (v : Value) (us : List Value) (Q : VK), Inv X pins σ H s → RelV x v → Vals xs us → r x xs H Q →
    wpAny (model X.prog X.w) X.A (call (.builtin id) (v :: us)) (EP X pins σ Q) X.xe s

/-! ### lists of values -/
theorem Vals.one : ∀ {x : V} {us : List Value}, Vals [x] us → ∃ u, us = [u] ∧ RelV x u
  | _, _, .cons r .nil => ⟨_, rfl, r⟩
theorem Vals.zero : ∀ {us : List Value}, Vals [] us → us = []
  | _, .nil => rfl
theorem Vals.rep {xs : List V} {us : List Value} (h : Vals xs us) : ∀ k : Nat, Vals (List.replicate k xs).flatten (List.replicate k us).flatten
  | 0 => .nil
  | k + 1 => by
    rw [List.replicate_succ, List.replicate_succ, List.flatten_cons, List.flatten_cons]
    exact Vals.append h (Vals.rep h k)
theorem foldl_rep (its : List Value) : ∀ (k : Nat) (acc : List Value),
    List.foldl (fun x1 x2 => x1 ++ x2) acc.toArray (List.replicate k its.toArray) = (acc ++ (List.replicate k its).flatten).toArray
  | 0, acc => by simp
  | k + 1, acc => by
    have e : acc.toArray ++ its.toArray = (acc ++ its).toArray := by simp
    have e2 : (acc ++ its) ++ (List.replicate k its).flatten = acc ++ (List.replicate (k + 1) its).flatten := by
      rw [List.replicate_succ, List.flatten_cons, List.append_assoc]
    rw [← e2, ← foldl_rep its k (acc ++ its), ← e, List.replicate_succ, List.foldl_cons]

section
variable {X : Cx} {pins : List (Addr × Obj)} {σ : St} {H : Hp} {s : Shared} {l b : Addr} {xs ys zs : List V}

/-! ### the two steps: a tracked list is rewritten, a new list is laid -/
theorem Inv.lset {its its' : List Value} {n : Nat} {f : Array Value → Array Value} {t' : Nat} (I : Inv X pins σ H s) (hH : H l = some (.lst xs))
    (e : s.heap.get? l = some { cls := .type "list", data := .seq its.toArray n }) (hf : f its.toArray = its'.toArray) (hv : Vals ys its') (hz : ys.length ≤ sizeLine) :
    Inv X pins σ (upd H l (.lst ys)) { s with heap := s.heap.update l (Obj.mapSeq f), toks := t' } := by
  have q := PySem.IsL.update e f
  rw [hf] at q
  refine I.write (x := l) (e := l) (by rw [hH]; exact trivial) (.inl rfl) (fun b' u hb hu => (Heap.get?_update_other s.heap (Obj.mapSeq f) (Ne.symm hb)).trans hu) ⟨_, q⟩ ?_
  exact ⟨hz, its', _, hv, q⟩
theorem Inv.lnew {its : List Value} {t' : Nat} (I : Inv X pins σ H s) (hv : Vals ys its) (hz : ys.length ≤ sizeLine) :
    Inv X pins σ (upd H s.heap.objs.size (.lst ys)) { s with heap := s.heap.push { cls := .type "list", data := .seq its.toArray }, toks := t' } :=
  I.laid (fun _ _ q => Heap.get?_push_of_some _ q) (Nat.le_refl _) ⟨hz, its, 0, hv, Heap.get?_push_size _ rfl⟩
theorem Inv.fresh (I : Inv X pins σ H s) : H s.heap.objs.size = none := I.hok.fresh (Nat.le_refl _)
theorem Inv.lstM (I : Inv X pins σ H s) (hH : H l = some (.lst xs)) : xs.length ≤ sizeLine ∧ ∃ (its : List Value) (n : Nat), Vals xs its ∧ xs.length = its.length ∧ s.heap.get? l = some { cls := .type "list", data := .seq its.toArray n } := by
  obtain ⟨z, its, n, r, e⟩ := I.hok l _ hH
  exact ⟨z, its, n, r, r.length, e⟩

theorem notLongL {n : Nat} (h : n ≤ sizeLine) : Builtin.List.listTooLong n = false := by
  unfold Builtin.List.listTooLong
  exact decide_eq_false (by omega)
end

section
variable {X : Cx}

/-! ### methods -/
def rAppend : V → List V → Hp → VK → Prop := fun x vs H Q => ∃ l xs y, x = .ref l ∧ vs = [y] ∧ H l = some (.lst xs) ∧ xs.length < sizeLine ∧ Q .non (upd H l (.lst (xs ++ [y])))
theorem mt_append : MtM X "list.append" rAppend := by
  intro pins s σ H x vs v us Q I rx rv h
  obtain ⟨l, xs, y, rfl, rfl, hH, hz, q⟩ := h
  cases rx
  obtain ⟨u, rfl, ru⟩ := rv.one
  obtain ⟨z, its, n, r, hl, e⟩ := I.lstM hH
  refine call_meets F.slot_list_append ⟨_, e, rfl⟩ F.entry_list_append (F.args_list_append_2 _ _) (PySem.list_append l its.toArray n u (by rw [List.size_toArray]; omega)) ⟨e, ?_⟩
  refine ⟨.non, _, I.lset (its' := its ++ [u]) hH e (by simp) (r.append (.cons ru .nil)) ?_, rfl, q⟩
  rw [List.length_append, List.length_singleton]
  omega

/-- a list times an int (a negative one is nothing) -/
def rRep : R2 := fun x y H Q => ∃ l k xs, x = .ref l ∧ y = .int k ∧ H l = some (.lst xs) ∧ -(2 ^ 63) ≤ k ∧ k < 2 ^ 63 ∧ xs.length * k.toNat ≤ sizeLine ∧
  ∀ p, H p = none → Q (.ref p) (upd H p (.lst (List.replicate k.toNat xs).flatten))
theorem len_rep {α : Type} (xs : List α) (k : Nat) : (List.replicate k xs).flatten.length = k * xs.length := by
  induction k with
  | zero => simp
  | succ k ih => rw [List.replicate_succ, List.flatten_cons, List.length_append, ih, Nat.succ_mul, Nat.add_comm]
theorem op_rep : OpR X (binaryOp .Mult) rRep := by
  intro pins s σ H x y v u Q I rx ry h
  obtain ⟨l, k, xs, rfl, rfl, hH, h1, h2, hz, q⟩ := h
  cases rx
  obtain ⟨t, rfl⟩ := ry
  obtain ⟨z, its, n, r, hl, e⟩ := I.lstM hH
  have hlen : its.toArray.size * k.toNat ≤ sizeLine := by rw [List.size_toArray, ← hl]; exact hz
  have hcap : ¬ its.toArray.size * k.toNat > (2 ^ 63 - 1) / 8 := by
    have : (sizeLine : Nat) ≤ (2 ^ 63 - 1) / 8 := by decide
    omega
  have hfit : ¬ (!Builtin.List.listFitsIndex k) = true := by
    rw [fitsIndex_both h1 h2]
    exact Bool.false_ne_true
  have hlong : ¬ Builtin.List.listTooLong (its.toArray.size * k.toNat) = true := by
    rw [notLongL hlen]
    exact Bool.false_ne_true
  have hnew : List.foldl (fun x1 x2 => x1 ++ x2) #[] (List.replicate (if its.toArray.isEmpty = true then 0 else k.toNat) its.toArray) = (List.replicate k.toNat its).flatten.toArray := by
    have f0 : ∀ m : Nat, List.foldl (fun x1 x2 => x1 ++ x2) #[] (List.replicate m its.toArray) = (List.replicate m its).flatten.toArray := fun m => by
      have := foldl_rep its m []
      rw [List.nil_append] at this
      exact this
    rw [f0]
    cases its with
    | nil => simp
    | cons a r' => rw [if_neg (by simp)]
  refine wpAny_binaryOp_repeat_ref (T := "list") (U := "int") (by decide) ⟨_, e, rfl⟩ (fun s' => typeIs_int s' k t) noFill_list_mul F.fills_int_mul F.slot_int_rmul repeat_list F.slot_int_index.lookup
    (call_meets F.slot_int_rmul (typeIs_int s k t) F.entry_int_rmul (F.args_int_rmul_2 _ _) (int___rmul___int_list k t l its.toArray n)
      ⟨e, rfl, ⟨_, e, rfl⟩, call_meets F.slot_list_mul ⟨_, e, rfl⟩ F.entry_list_mul (F.args_list_mul_2 _ _) (AutoListH.list___mul___list_int_3 l its.toArray n k t hfit hcap hlong) ⟨e, ?_⟩⟩)
  rw [hnew]
  exact ⟨.ref _, _, I.lnew (t' := s.toks) (r.rep k.toNat) (by rw [len_rep, Nat.mul_comm]; exact hz), rfl, q _ I.fresh⟩

end

/-! ### xs[a:b] = ys -/
section
variable {prog : Program} {w : World} {A : Around} {E : Value → Shared → Prop} {s : Shared}
end

section
variable {X : Cx}
end
end L2

namespace Att
open PySem PySem.W PySem.Calls PyProof.Rows

/-! ### the script -/
theorem ints_of_wellAll {P : Params} {h : Heap} : ∀ (ns : List Int) (vs : List Value), WellAll P h vs (ns.map WData.int) → IntsAre vs ns := by
  intro ns
  induction ns with
  | nil =>
    intro vs w
    rw [List.map_nil] at w
    cases w
    exact .nil
  | cons n ns ih =>
    intro vs w
    rw [List.map_cons] at w
    cases w with
    | cons a b =>
      cases a
      exact .cons _ _ (ih _ b)

theorem script_of {l : OpenLaw} {n : Nat} (hn : l.most = some n) {P : Params} {h : Heap} {args : List WData} {vals : List Value}
    (hpre : l.row.toRowW.claim.pre args = true) (hwl : WellAll P h vals args) :
    ∃ a vs ns, vals = [Value.ref a] ∧ args = [WData.list (ns.map WData.int)] ∧ h.get? a = some { cls := .type "list", data := .seq vs.toArray } ∧ IntsAre vs ns ∧ ns.length ≤ n := by
  have hsh : WShape.hasAll [] args [.list .int] = true := (pre_splitW hpre).1
  have hc : l.pre.holds [] { args := args } = true := (pre_splitW hpre).2
  obtain ⟨d, r, rfl, h1, h2⟩ := hasAllW_cons hsh
  obtain rfl := hasAllW_nil h2
  obtain ⟨xs, rfl, h3⟩ := hasW_list h1
  obtain ⟨ns, rfl⟩ := items_int h3
  have hlen : ns.length ≤ n := by
    unfold OpenLaw.pre at hc
    have h4 : (WTm.not (.lt (.lit (.int (n : Int))) (.len (.arg 0)))).holds [] { args := [.list (ns.map .int)] } = true := by
      have h4 := (holds_andW hc).1
      rw [hn] at h4
      exact h4
    have h5 := condW_of h4 (w_not (w_lt w_lit (w_len_list (w_arg rfl))))
    rw [List.length_map] at h5
    refine Nat.le_of_not_lt fun q => ?_
    have q' : (n : Int) < ((ns.length : Nat) : Int) := by omega
    first
      | (rw [decide_eq_true q'] at h5; exact absurd h5 (by decide))
      | (simp at h5; omega)
  cases hwl with
  | cons w1 w2 =>
    cases w2
    cases w1 with
    | list ho hall => exact ⟨_, _, ns, rfl, rfl, ho, ints_of_wellAll ns _ hall, hlen⟩

theorem post_true (l : OpenLaw) (args : List WData) : l.row.toRowW.claim.post args (.bool true) args = true :=
  postW_of (r := l.row.toRowW) (X := (true == true))
    (show WShape.has [] (.bool true) .bool = true by first | rfl | decide | simp [WShape.has, WShape.arms, WShape.armsAll])
    (show (WTm.eq .res (.lit (.bool true))).value [] { args := args, res := some (.bool true), after := args } = some (.bool (true == true)) from w_eq_bool (w_res rfl) w_lit) rfl

/-- the same from a codeAny of the CALL (for a layer whose function contracts speak of calls) -/
theorem attach_call {l : OpenLaw} {n : Nat} {q : Program} {loose : List Str} {XP : (Str → Option Value) → Heap → Prop} {YP : World → Heap → Prop} {d : DefRec}
    (hn : l.most = some n) (hdf : d.params.defaults = [])
    (call : ∀ (w : World) (s₀ s₁ : Shared) (mg mb : Str → Option Value) (fa : Addr) (o : Obj) (pm cd doc : Value) (a : Addr) (vs : List Value) (ns : List Int),
      Ground q loose [] XP w s₀ mg mb s₁.heap → YP w s₁.heap →
      s₁.heap.get? fa = some o → o.data = .func (docDef d.name d.params d.body d.scope pm cd doc) → s₁.heap.CodeRec cd d.name → mg d.name = some (.ref fa) →
      s₁.heap.get? a = some { cls := .type "list", data := .seq vs.toArray } → IntsAre vs ns → ns.length ≤ n → s₁.gens = #[] →
      codeAny (model l.prog w) callerA (.call (.ref fa) ⟨[.ref a], []⟩) (fun r s' => r = .ok (.ret (.bool true)) ∧ OldK s₁.heap s'.heap ∧ s'.os = s₁.os ∧ AllBare s'.gens) s₁) :
    WalkO q loose XP YP l.row.toRowW d [] (fun f vs => PySem.call f vs) := by
  intro w s₀ s₁ mg mb G Y fa o pm cd doc dV kV ho hd hcd hD hmg hg args vals as hpre hlay hrd hwl hlo
  obtain rfl : dV = .none := Dflts.none hD hdf
  obtain rfl : kV = .none := Dflts.noKw hD
  obtain ⟨a, vs, ns, rfl, rfl, hobj, hints, hlen⟩ := script_of hn hpre hwl
  refine enter_call (codeAny_mono (call w s₀ s₁ mg mb fa o pm cd doc a vs ns G Y ho (fd_plain hd) hcd hmg hobj hints hlen hg) fun r s' hq => ?_)
  obtain ⟨rfl, h2, h3, h4⟩ := hq
  exact ⟨.inl ⟨.bool true, .bool true, [], rfl, fun _ => rfl, .bool true, post_true l _, fun _ => ⟨List.Pairwise.nil, fun _ hm => (nomatch hm)⟩⟩, h2, h3, h4⟩

/-! ### rules over ANY heap (no ledger) from facts about the written part K: the library's own take a ledger (News) for what they write -/
section
variable {prog : Program} {w : World} {A : Around} {E : Value → Shared → Prop} {s : Shared} {K : Frag}

end
end Att

namespace L2
open PySem PySem.Spec PyProof.Rows

theorem vals_ints : ∀ {vs : List Value} {ns : List Int}, IntsAre vs ns → Vals (ns.map V.int) vs
  | _, _, .nil => .nil
  | _, _, .cons n t h => .cons ⟨t, rfl⟩ (vals_ints h)

/-- nothing is tracked but the script, known to the object (or it is an object of the module) -/
def Only (H : Hp) : Prop := ∀ b, H b = none ∨ ∃ o xs, H b = some (.frz o (.lst xs))

/-- THE HEAD: the law's promise, at the heap behind the top. F, the promise of the law's def, may use that base is part of the heap (so K.In base, base.Ns mainGlobals mg stand in Mod) -/
theorem law_call {P : Program} {w : World} {K : PySem.W.Frag} {mg mb : Str → Option Value} {CX : CXT} {k : Nat} {fa a : Addr} {fd : FuncData} {x : Str} {sp : Sp} {s₁ : Shared} {vs : List Value} {ns : List Int}
    (KX : K.In s₁.heap) (hns : s₁.heap.Ns mainGlobals mg) (hb : s₁.heap.Ns builtinsNs mb) (hbb : ∀ x : Str, x ≠ "__name__" → mb x = bootBuiltins x) (hlim : s₁.heap.NoLimit) (hg : s₁.gens = #[])
    (ha : s₁.heap.get? a = some { cls := .type "list", data := .seq vs.toArray }) (hi : IntsAre vs ns) (hl : ns.length ≤ sizeLine) (hr : Room k callerA)
    (F : ∀ base : Heap, K.In base → base.Ns mainGlobals mg → FnOk P w K mg base CX k fa fd [x] sp) (hbind : ∀ (s : Shared) (u : Value), BindsTo s fd ⟨[u], []⟩ [(x, u)])
    (hsp : ∀ H : Hp, Only H → SqL K H a (ns.map V.int) → sp [.ref a] H (fun v _ => v = .bl true) fun _ _ _ => False)
    (hCX : ∀ H e s', CX [] H s₁ (fun _ _ _ => False) e s' → False) :
    codeAny (model P w) callerA (.call (.ref fa) ⟨[.ref a], []⟩) (fun r s' => r = .ok (.ret (.bool true)) ∧ OldK s₁.heap s'.heap ∧ s'.os = s₁.os ∧ AllBare s'.gens) s₁ := by
  have rv := vals_ints hi
  have lenV := hi.length
  -- from an abstract heap in which nothing but the script may be tracked
  have core : ∀ H : Hp, Only H → SqL K H a (ns.map V.int) → HOk P w H s₁.heap → (∀ b, H b ≠ none → b = a) → (H a ≠ none → K.lookup a = none) →
      codeAny (model P w) callerA (.call (.ref fa) ⟨[.ref a], []⟩) (fun r s' => r = .ok (.ret (.bool true)) ∧ OldK s₁.heap s'.heap ∧ s'.os = s₁.os ∧ AllBare s'.gens) s₁ := by
    intro H hO hS hok hA hK
    have base_of : ∀ {b : Addr} {o : Obj}, s₁.heap.get? b = some o → H b = none → (hidT s₁.heap H).get? b = some o := fun e n => hidT_get e n
    have noA : ∀ {b : Addr} {o : Obj} {es : Array DictEntry} {ep : Nat}, s₁.heap.get? b = some o → o.data = .dict es ep → H b = none := fun {b o es ep} e d => by
      cases q : H b with
      | none => rfl
      | some u =>
        have e' : b = a := hA b (by rw [q]; simp)
        subst e'
        rw [ha] at e; cases e
        have d' : Data.seq vs.toArray _ = Data.dict es ep := d
        cases d'
    have nsK : ∀ {b : Addr} {m : Str → Option Value}, s₁.heap.Ns b m → (hidT s₁.heap H).Ns b m := fun {b m} ⟨o, es, ep, e, d, r⟩ => ⟨o, es, ep, base_of e (noA e d), d, r⟩
    have hKb : K.In (hidT s₁.heap H) := fun b o e => base_of (KX b o e) (by
      cases q : H b with
      | none => rfl
      | some u =>
        have e' : b = a := hA b (by rw [q]; simp)
        subst e'
        rw [hK (by rw [q]; simp)] at e; cases e)
    have hM : Mod K mg (hidT s₁.heap H) := ⟨hKb, nsK hns, ⟨mb, nsK hb, hbb⟩, let ⟨mc, h1, h2⟩ := hlim; ⟨mc, nsK h1, h2⟩⟩
    have e0 : Env0 P w K mg (hidT s₁.heap H) callerA [] s₁ H := ⟨rfl, hM, fun b o e => of_hidT e, Nat.le_of_eq (hidT_size _ _), trivial, fun b hb => absurd (show b ∈ ([] : List Addr) from hb) (by simp), hok, .of_eq hg⟩
    refine codeAny_mono ((F _ hKb (nsK hns)).run callerA [] s₁ H ⟨[.ref a], []⟩ [.ref a] [.ref a] _ _ hr e0 (hbind s₁ (.ref a)) (.cons rfl .nil) (hsp H hO hS)) fun r s' h => ?_
    cases r with
    | error e => exact (hCX H e s' h).elim
    | ok fl =>
      cases fl with
      | next => exact False.elim h
      | brk => exact False.elim h
      | cont => exact False.elim h
      | ret u =>
        obtain ⟨v, H', os, bare, un, hok', r', q⟩ := h
        have q' : v = .bl true := q
        subst q'
        obtain rfl : u = Value.bool true := r'
        refine ⟨rfl, OldK.of_keep fun b o e => ?_, os, bare⟩
        cases q : H b with
        | none => exact un.keep b o e q (by intro z; exact absurd (show b ∈ ([] : List Addr) from z) (by simp)) (by simp)
        | some u =>
          rcases hO b with z | ⟨ob, xs, z⟩
          · rw [q] at z; cases z
          · have z2 := un.frzs b ob _ z
            obtain ⟨e1, _⟩ := hok b _ z
            obtain ⟨e2, _⟩ := hok' b _ z2
            rw [e] at e1; cases e1
            exact e2
  cases hk : K.lookup a with
  | some o =>
    -- the script is one of the module's own objects
    have e := KX a o hk
    rw [ha] at e
    cases e
    refine core (fun _ => none) (fun _ => .inl rfl) (.inr ⟨_, vs.toArray, _, hk, rfl, rfl, rfl, by rw [List.size_toArray, lenV]; exact hl, by simpa using rv⟩) (fun b u z => by have z' : (none : Option HO) = some u := z; cases z') (fun b z => absurd rfl z) fun z => absurd rfl z
  | none =>
    refine core (fun b => if b = a then some (.frz { cls := .type "list", data := .seq vs.toArray } (.lst (ns.map V.int))) else none) (fun b => ?_) (.inl (.inr ⟨{ cls := .type "list", data := .seq vs.toArray }, if_pos rfl⟩)) (fun b u z => ?_) (fun b z => ?_) fun _ => hk
    · by_cases hb : b = a
      · exact .inr ⟨_, _, if_pos hb⟩
      · exact .inl (if_neg hb)
    · by_cases hb : b = a
      · have z' := (if_pos hb).symm.trans z
        cases z'
        subst hb
        exact ⟨ha, by rw [List.length_map]; exact hl, vs, _, rv, ha⟩
      · have z' := (if_neg hb).symm.trans z
        cases z'
    · by_cases hb : b = a
      · exact hb
      · exact absurd (if_neg hb) z
end L2

namespace L2
open PySem PySem.Spec PyProof.Rows

/-- the goal that k_head leaves (case hc), from the law's promise. F gives the function object fd (K's own) once, then the promise over every base -/
theorem walk_of {l : PySem.W.OpenLaw} {n k : Nat} {q : Program} {loose : List Str} {XP : (Str → Option Value) → Heap → Prop} {YP : World → Heap → Prop} {d : DefRec} {K : Params → PySem.W.Frag} {CX : World → CXT} {sp : World → Sp} {x : Str}
    (hn : l.most = some n) (hn2 : n ≤ sizeLine) (hdf : d.params.defaults = []) (hr : Room k callerA)
    (hY : ∀ (w : World) (h : Heap), YP w h → (K w.params).In h)
    (F : ∀ (w : World) (mg : Str → Option Value) (fa : Addr) (h : Heap), (K w.params).In h → h.Ns mainGlobals mg → mg d.name = some (.ref fa) →
      ∃ fd : FuncData, (∀ (s : Shared) (u : Value), BindsTo s fd ⟨[u], []⟩ [(x, u)]) ∧
        ∀ base : Heap, (K w.params).In base → base.Ns mainGlobals mg → FnOk l.prog w (K w.params) mg base (CX w) k fa fd [x] (sp w))
    (hsp : ∀ (w : World) (H : Hp) (a : Addr) (ns : List Int), ns.length ≤ n → Only H → SqL (K w.params) H a (ns.map V.int) → sp w [.ref a] H (fun v _ => v = .bl true) fun _ _ _ => False)
    (hCX : ∀ (w : World) (H : Hp) (s : Shared) (e : Value) (s' : Shared), CX w [] H s (fun _ _ _ => False) e s' → False) :
    PySem.W.WalkO q loose XP YP l.row.toRowW d [] (fun f vs => PySem.call f vs) := by
  refine Att.attach_call hn hdf fun w s₀ s₁ mg mb fa o pm cd doc a vs ns G Y ho hd hcd hmg hobj hints hlen hg => ?_
  have KX := hY w _ Y
  obtain ⟨fd, hb, hF⟩ := F w mg fa _ KX G.T.g hmg
  exact law_call KX G.T.g G.T.b G.T.builtins G.T.nolimit hg hobj hints (Nat.le_trans hlen hn2) hr hF hb (fun H hO hS => hsp w H a ns hlen hO hS) fun H e s' => hCX w H s₁ e s'
end L2

/-! SHORT WORDS over the layer: a def of the text, its body, what a loop and a test want. -/
namespace L2
open PySem PySem.Spec PyProof.Rows

/-! ### the text by places -/
/-- the j-th statement of a class's body -/
def inClass (s : Stmt) (j : Nat) : Stmt := match s with
  | .ClassDef _ _ _ body _ _ _ _ _ _ _ => body.getD j (.Pass ⟨0, 0, 0, 0⟩)
  | _ => .Pass ⟨0, 0, 0, 0⟩
def defArgs (s : Stmt) : Arguments := match s with
  | .FunctionDef _ a _ _ _ _ _ _ _ _ => a
  | _ => { posonlyargs := [], args := [], vararg := none, kwonlyargs := [], kw_defaults := [], kwarg := none, defaults := [] }
def defBody (s : Stmt) : List Stmt := match s with
  | .FunctionDef _ _ b _ _ _ _ _ _ _ => b
  | _ => []
def defScope (s : Stmt) : Scope := match s with
  | .FunctionDef _ _ _ _ _ _ sc _ _ _ => sc
  | _ => { kind := .function, names := [], isGenerator := false, isCoroutine := false }

/-! ### no exception leaves a def -/
abbrev CX0 : CXT := fun _ _ _ _ _ _ => False
abbrev E0 : XK := fun _ _ _ => False
theorem pass0 {X : Cx} : Passes CX0 X E0 := fun _ _ _ _ _ _ _ h => h.elim

/-! ### a def (or method) of the text as it stands behind the top -/
structure Fun (K : PySem.W.Frag) (x qual : Str) (st : Stmt) (f : Addr) (fd : FuncData) : Prop where
  ex : ∃ (oc : Value) (od : Option Addr) (kV doc pm : Value) (an : Option Addr) (cdv ct : Value) (osl : Array (Option Value)),
    fd = PySem.W.fnOf x qual (defArgs st) (defBody st) (defScope st) .none kV doc pm an cdv ct ∧ K.lookup f = some ⟨oc, od, .func fd, osl⟩ ∧ PySem.W.codeIn K cdv qual = true
  kp : PySem.W.keepIn K (.ref f) = true
section
variable {P : Program} {w : World} {K : PySem.W.Frag} {mg : Str → Option Value} {base : Heap}
/-- THE RULE for a def: its body as a term of rules, and the reading of that term -/
theorem Fun.ok {x qual : Str} {st : Stmt} {f : Addr} {fd : FuncData} {N ps : List Str} {k : Nat} {sp : Sp} (F : Fun K x qual st f fd) (S : FnScope N ps (defScope st)) (len : ∀ vs H Q E, sp vs H Q E → vs.length = ps.length)
    (hbody : ∀ (cdv : Value) (A : Around) (outer : List Env) (s : Shared) (H : Hp) (vs : List V) (Q : VK) (E : XK), Room k (A.deeper (envOfC qual (defScope st) s.heap.objs.size f cdv)) → sp vs H Q E →
      ∃ t, PSs (cxOf CX0 P w K mg base N qual (defScope st) f cdv A outer s H E).nox (defBody st) t ∧ t { nx := fun _ H' => Q .non H', rt := Q } (start N vs) H) : FnOk P w K mg base CX0 (k + 1) f fd ps sp := by
  obtain ⟨oc, od, kV, doc, pm, an, cdv, ct, osl, rfl, lk, hcd⟩ := F.ex
  refine fn_of lk hcd S len fun A outer s H vs Q E hr hsp => ?_
  obtain ⟨t, h, q⟩ := hbody cdv A outer s H vs Q E hr hsp
  exact ⟨t, h.nox, q⟩
/-- how its arguments bind (no defaults): h is «fun _ _ _ _ _ _ us hl => match us, hl with | [_, _], _ => rfl», one _ a parameter -/
theorem Fun.binds {x qual : Str} {st : Stmt} {f : Addr} {fd : FuncData} {ps : List Str} (F : Fun K x qual st f fd)
    (h : ∀ (kV doc pm : Value) (an : Option Addr) (cdv ct : Value) (us : List Value), us.length = ps.length → bindArgs (PySem.W.fnOf x qual (defArgs st) (defBody st) (defScope st) .none kV doc pm an cdv ct) ⟨us, []⟩ = pure (ps.zip us)) : Binds K fd ps [] := by
  obtain ⟨oc, od, kV, doc, pm, an, cdv, ct, osl, rfl, lk, hcd⟩ := F.ex
  exact .all (h kV doc pm an cdv ct)
theorem fun_mk {x qual : Str} {st : Stmt} {f : Addr} {oc : Value} {od an : Option Addr} {osl : Array (Option Value)} {kV doc pm cdv ct : Value} (l : K.lookup f = some ⟨oc, od, .func (PySem.W.fnOf x qual (defArgs st) (defBody st) (defScope st) .none kV doc pm an cdv ct), osl⟩)
    (c : PySem.W.codeIn K cdv qual = true) (k : PySem.W.keepIn K (.ref f) = true) : Fun K x qual st f (PySem.W.fnOf x qual (defArgs st) (defBody st) (defScope st) .none kV doc pm an cdv ct) := ⟨⟨oc, od, kV, doc, pm, an, cdv, ct, osl, rfl, l, c⟩, k⟩
end
theorem small1000 {n : Nat} (h : n ≤ 1000) : n < sizeLine := Nat.lt_of_le_of_lt h (by decide)

/-! ### expressions in short: the name that stands in the i-th slot -/
section
variable {X : Cx}
theorem pv (i : Nat) {x : Str} {pos : Pos} (hN : X.N[i]? = some x := by rfl) (hv : Vis X.env.scope x := by first | exact Or.inl rfl | exact Or.inr (Or.inl rfl) | exact Or.inr (Or.inr rfl)) (hd : (x == ("__debug__" : Str)) = false := by decide)
    (hcd : (x == ("__classdict__" : Str)) = false := by decide) : PE X (.Name x pos) (tVar i) := pe_var hN hv hd hcd
end

theorem ite2 {c A B : Prop} [Decidable c] (h1 : c → A) (h2 : ¬ c → B) : if c then A else B := by
  by_cases h : c
  · rw [if_pos h]
    exact h1 h
  · rw [if_neg h]
    exact h2 h
/-! ### heaps -/
/-- all that was tracked is as it was -/
def Same (H H' : Hp) : Prop := ∀ b o, H b = some o → H' b = some o
theorem Same.refl (H : Hp) : Same H H := fun _ _ h => h
theorem Same.trans {H H1 H2 : Hp} (a : Same H H1) (b : Same H1 H2) : Same H H2 := fun c o h => b c o (a c o h)
theorem Same.free {H H' : Hp} (e : Same H H') {l : Addr} (h : H' l = Option.none) : H l = Option.none := by
  cases q : H l with
  | none => rfl
  | some o =>
    rw [e l o q] at h
    cases h
theorem Same.seq {K : PySem.W.Frag} {H H' : Hp} {a : Addr} {xs : List V} (e : Same H H') (h : SqL K H a xs) : SqL K H' a xs := by
  rcases h with (h | ⟨o, h⟩) | h
  · exact .inl (.inl (e _ _ h))
  · exact .inl (.inr ⟨o, e _ _ h⟩)
  · exact .inr h

end L2

namespace L2
open PySem PySem.Spec PyProof.Rows

/-! ### lists of pairs as tables -/
section
variable {κ : Type} [DecidableEq κ]
def valV (kvs : List (κ × V)) (k : κ) : Option V := (kvs.find? fun kv => decide (kv.1 = k)).map (·.2)
/-- in its place, or at the end -/
def putK (kvs : List (κ × V)) (k : κ) (v : V) : List (κ × V) :=
  if (kvs.any fun kv => decide (kv.1 = k)) = true then kvs.map (fun kv => if kv.1 = k then (kv.1, v) else kv) else kvs ++ [(k, v)]
theorem valV_pos {p : κ × V} {r : List (κ × V)} {k : κ} (e : p.1 = k) : valV (p :: r) k = some p.2 := by simp [valV, List.find?_cons, e]
theorem valV_neg {p : κ × V} {r : List (κ × V)} {k : κ} (e : ¬ p.1 = k) : valV (p :: r) k = valV r k := by simp [valV, List.find?_cons, e]
theorem valV_any (k : κ) : ∀ kvs : List (κ × V), (kvs.any fun kv => decide (kv.1 = k)) = (valV kvs k).isSome
  | [] => rfl
  | p :: r => by
    rw [List.any_cons]
    by_cases e : p.1 = k
    · simp only [valV_pos e, decide_eq_true e, Bool.true_or, Option.isSome_some]
    · rw [valV_neg e, decide_eq_false e, Bool.false_or]; exact valV_any k r
theorem RelO.isSome_eq {o : Option V} {u : Option Value} (r : RelO o u) : o.isSome = u.isSome := by
  cases o with
  | none => cases u with
    | none => rfl
    | some _ => exact (show False from r).elim
  | some _ => cases u with
    | none => exact (show False from r).elim
    | some _ => rfl
theorem KV.any {kvs : List (κ × V)} {vs : List (κ × Value)} (r : KV kvs vs) (k : κ) : (kvs.any fun kv => decide (kv.1 = k)) = vs.any fun kv => decide (kv.1 = k) := by
  unfold KV at r
  induction r with
  | nil => rfl
  | cons h t ih => rw [List.any_cons, List.any_cons, ih, h.1]
theorem KV.repl {kvs : List (κ × V)} {vs : List (κ × Value)} (r : KV kvs vs) (k : κ) {y : V} {u : Value} (ry : RelV y u) :
    KV (kvs.map fun kv => if kv.1 = k then (kv.1, y) else kv) (vs.map fun kv => if kv.1 = k then (kv.1, u) else kv) := by
  unfold KV at r ⊢
  induction r with
  | nil => exact .nil
  | @cons p q ps qs h t ih =>
    rw [List.map_cons, List.map_cons]
    refine .cons ?_ ih
    obtain ⟨h1, h2⟩ := h
    by_cases e : p.1 = k
    · rw [if_pos e, if_pos (h1.symm.trans e)]; exact ⟨h1, ry⟩
    · rw [if_neg e, if_neg (fun z => e (h1.trans z))]; exact ⟨h1, h2⟩
theorem KV.put {kvs : List (κ × V)} {vs : List (κ × Value)} (r : KV kvs vs) (k : κ) {y : V} {u : Value} (ry : RelV y u) : KV (putK kvs k y) (stored vs k u) := by
  unfold putK stored
  rw [r.any k]
  by_cases e : (vs.any fun kv => decide (kv.1 = k)) = true
  · rw [if_pos e, if_pos e]; exact r.repl k ry
  · rw [if_neg e, if_neg e]; exact Paired.snoc r ⟨rfl, ry⟩
theorem KV.length {kvs : List (κ × V)} {vs : List (κ × Value)} (r : KV kvs vs) : kvs.length = vs.length := Paired.length r
end


/-- raw entries of a dict with tuple keys -/
abbrev KT (H : Hp) : List (List Key × V) → List (List Key × Addr × Value) → Prop := Paired fun p q => p.1 = q.1 ∧ H q.2.1 = some (.tup (p.1.map kV)) ∧ RelV p.2 q.2.2
theorem KT.val {H : Hp} {kvs : List (List Key × V)} {xs : List (List Key × Addr × Value)} (r : KT H kvs xs) (k : List Key) : RelO (valV kvs k) ((atKey xs k).map (·.2)) := by
  induction r with
  | nil => exact True.intro
  | @cons p q ps qs h t ih =>
    obtain ⟨h1, _, h2⟩ := h
    by_cases e : p.1 = k
    · have e' : q.1 = k := h1.symm.trans e
      have b : atKey (q :: qs) k = some q.2 := by simp [atKey, List.find?_cons, e']
      rw [valV_pos e, b]; exact h2
    · have e' : ¬ q.1 = k := fun z => e (h1.trans z)
      have b : atKey (q :: qs) k = atKey qs k := by simp [atKey, List.find?_cons, e']
      rw [valV_neg e, b]; exact ih
theorem KT.repl {H : Hp} {kvs : List (List Key × V)} {xs : List (List Key × Addr × Value)} (r : KT H kvs xs) (k : List Key) {y : V} {u : Value} (ry : RelV y u) :
    KT H (kvs.map fun kv => if kv.1 = k then (kv.1, y) else kv) (xs.map (putAt k u)) := by
  induction r with
  | nil => exact .nil
  | @cons p q ps qs h t ih =>
    rw [List.map_cons, List.map_cons]
    refine .cons ?_ ih
    obtain ⟨h1, h2, h3⟩ := h
    unfold putAt
    by_cases e : p.1 = k
    · rw [if_pos e, if_pos (h1.symm.trans e)]; exact ⟨h1, h2, ry⟩
    · rw [if_neg e, if_neg (fun z => e (h1.trans z))]; exact ⟨h1, h2, h3⟩
theorem KT.put {H : Hp} {kvs : List (List Key × V)} {xs : List (List Key × Addr × Value)} (r : KT H kvs xs) (k : List Key) {b : Addr} {y : V} {u : Value} (hb : H b = some (.tup (k.map kV))) (ry : RelV y u) :
    KT H (putK kvs k y) (storedH xs k b u) := by
  have e : (kvs.any fun kv => decide (kv.1 = k)) = (atKey xs k).isSome := by
    rw [valV_any, (r.val k).isSome_eq, Option.isSome_map]
  unfold putK storedH
  rw [e]
  by_cases q : (atKey xs k).isSome = true
  · rw [if_pos q, if_pos q]; exact r.repl k ry
  · rw [if_neg q, if_neg q]; exact Paired.snoc r ⟨rfl, hb, ry⟩
section
variable {P : Program} {w : World} {H : Hp} {h : Heap} {a : Addr}
end

/-- what the dict at a holds at the key y -/
def DGet (H : Hp) (a : Addr) (y : V) (r : Option V) : Prop :=
  (∃ kvs k, Rd H a (.dK kvs) ∧ y = kV k ∧ r = valV kvs k) ∨ ∃ kvs k b, Rd H a (.dT kvs) ∧ y = .ref b ∧ H b = some (.tup (k.map kV)) ∧ r = valV kvs k
/-- the heap behind a[y] = v -/
def DPut (H : Hp) (a : Addr) (y v : V) (H' : Hp) : Prop :=
  (∃ kvs k, H a = some (.dK kvs) ∧ y = kV k ∧ kvs.length < sizeLine ∧ H' = upd H a (.dK (putK kvs k v))) ∨
  ∃ kvs k b, H a = some (.dT kvs) ∧ y = .ref b ∧ H b = some (.tup (k.map kV)) ∧ kvs.length < sizeLine ∧ H' = upd H a (.dT (putK kvs k v))
theorem DGet.k {H : Hp} {a : Addr} {kvs : List (Key × V)} {k : Key} (e : H a = some (.dK kvs)) : DGet H a (kV k) (valV kvs k) := .inl ⟨kvs, k, .inl e, rfl, rfl⟩
theorem DGet.t {H : Hp} {a b : Addr} {kvs : List (List Key × V)} {k : List Key} (e : H a = some (.dT kvs)) (eb : H b = some (.tup (k.map kV))) : DGet H a (.ref b) (valV kvs k) := .inr ⟨kvs, k, b, .inl e, rfl, eb, rfl⟩
theorem DPut.k {H : Hp} {a : Addr} {kvs : List (Key × V)} {k : Key} {v : V} (e : H a = some (.dK kvs)) (hl : kvs.length < sizeLine) : DPut H a (kV k) v (upd H a (.dK (putK kvs k v))) := .inl ⟨kvs, k, e, rfl, hl, rfl⟩
theorem DPut.t {H : Hp} {a b : Addr} {kvs : List (List Key × V)} {k : List Key} {v : V} (e : H a = some (.dT kvs)) (eb : H b = some (.tup (k.map kV))) (hl : kvs.length < sizeLine) :
    DPut H a (.ref b) v (upd H a (.dT (putK kvs k v))) := .inr ⟨kvs, k, b, e, rfl, eb, hl, rfl⟩


section
variable {X : Cx} {pins : List (Addr × Obj)} {σ : St} {H : Hp} {s : Shared} {a : Addr} {y v : V} {u r : Value} {o : Option V} {A : Around} {E : Value → Shared → Prop}

end

section
variable {X : Cx} {pins : List (Addr × Obj)} {σ : St} {H : Hp} {s : Shared} {a : Addr} {kvs : List (Key × V)} {k : Key} {u : Value} {A : Around} {E : Value → Shared → Prop}
end


section
variable {X : Cx} {o i e value : Expr} {pos pos' tpos : Pos} {td ty tv : TE}
end


section
variable {X : Cx} {pos : Pos}
end

/-! ### methods -/
/-- a method call o.m(e) of a built-in, with one argument: what must be seen of the text -/
structure M1 (X : Cx) (o : Expr) (m : Str) (apos : Pos) (e : Expr) (cpos : Pos) : Prop where
  base : attributeBase o m X.env (eval o X.env) = eval o X.env
  few : ((backTo cpos (starEach [e] X.env)).all (fun x => !x.1) && (backToKw cpos (keywordEach [] X.env)).all (fun x => x.1.isSome)
    && decide (([e] : List Expr).length + ([] : List Keyword).length + (if ([] : List Keyword).isEmpty then 0 else 1) < 30)) = true
  line : (apos.endLine == cpos.line) = true
  trees : backTo cpos (starEach [e] X.env) = [(false, eval e X.env)]
structure M2 (X : Cx) (o : Expr) (m : Str) (apos : Pos) (e f : Expr) (cpos : Pos) : Prop where
  base : attributeBase o m X.env (eval o X.env) = eval o X.env
  few : ((backTo cpos (starEach [e, f] X.env)).all (fun x => !x.1) && (backToKw cpos (keywordEach [] X.env)).all (fun x => x.1.isSome)
    && decide (([e, f] : List Expr).length + ([] : List Keyword).length + (if ([] : List Keyword).isEmpty then 0 else 1) < 30)) = true
  line : (apos.endLine == cpos.line) = true
  trees : backTo cpos (starEach [e, f] X.env) = [(false, eval e X.env), (false, eval f X.env)]

section
variable {X : Cx} {pins : List (Addr × Obj)} {σ : St} {H : Hp} {s : Shared} {a : Addr} {y d : V} {u r : Value} {o : Option V} {A : Around} {E : Value → Shared → Prop}
end

section
variable {X : Cx} {o e f : Expr} {apos cpos : Pos} {td ty tx : TE}
end

/-! ### dict(d): a copy -/
section
variable {X : Cx} {pins : List (Addr × Obj)} {σ : St} {H : Hp} {s : Shared} {a : Addr} {kvs : List (Key × V)} {A : Around} {E : Value → Shared → Prop}
end


section
variable {X : Cx} {pins : List (Addr × Obj)} {σ : St} {H : Hp} {s : Shared} {a : Addr} {y : V} {u : Value} {A : Around} {E : Value → Shared → Prop}
end
end L2
namespace L2
open PySem PySem.Spec PyProof.Rows
section
variable {X : Cx}
end
end L2
namespace L2
open PySem PySem.Spec PyProof.Rows
/-! ### a dict's pairs: keys that differ -/
section
variable {κ : Type} [DecidableEq κ]
end
end L2

namespace L2
open PySem PySem.Spec PyProof.Rows

/-- a comprehension's block -/
def cxC (X : Cx) (scope : Scope) (cl : List (Str × Addr)) (M : List Str) (fp : List Addr) (s : Shared) (H : Hp) : Cx :=
  { X with N := M, s₀ := s, H₀ := H, env := compEnvC scope cl s.heap.objs.size X.env, outer := X.stack, stack := X.stack, ex := fp, fn := fun _ => false, pn := [], xe := fun _ _ => False }

/-- how the block's slots start: kept where the mask is true, the own ones empty -/
def maskS (bs : List Bool) (n : Nat) (σ : St) : St := (bs.zip σ).map (fun p => if p.1 then p.2 else none) ++ List.replicate n none
/-- every value that is known in σ is known in τ -/
def ExtS (σ τ : St) : Prop := ∀ (i : Nat) v, σ[i]? = some (some v) → τ[i]? = some (some v)
theorem ExtS.refl (σ : St) : ExtS σ σ := fun _ _ h => h
theorem ExtS.trans {a b c : St} (h : ExtS a b) (k : ExtS b c) : ExtS a c := fun i v e => k i v (h i v e)
theorem ExtS.put {σ τ : St} {i : Nat} {v : V} (h : ExtS σ τ) (e : σ[i]? = some none) : ExtS σ (τ.set i (some v)) := fun j w q => by
  by_cases hj : i = j
  · subst hj; rw [e] at q; cases q
  · rw [List.getElem?_set_ne hj]; exact h j w q

/-- the comprehension's walk: W holds between two turns; the list that grows stands at acc -/
def CompW (J : It) (acc : Addr) (g : TG) (tt : TT) (te : TE) (σ0 : St) (H1 : Hp) (Q : VK) : Prop := ∃ W : Nat → Nat → Hp → Prop, (∃ m, W 0 m (upd H1 acc (.lst []))) ∧
  ∀ i m H2, W i m H2 → (J.stop i H2 ∧ Q (.ref acc) H2) ∨ (J.go i H2 ∧ ∃ N : Hp → Prop, (∀ H', N H' → ∃ m', m' < m ∧ W (i + 1) m' H') ∧ ∀ x H3, J.yld i H2 x H3 → g x σ0 H3 fun σ4 H4 => (ExtS σ0 σ4 ∧ σ4.length = σ0.length) ∧ tt σ4 H4 fun b H5 =>
    if b = true then te σ4 H5 fun v H6 => ∃ ys, H6 acc = some (.lst ys) ∧ ys.length < sizeLine ∧ N (upd H6 acc (.lst (ys ++ [v]))) else N H5)
def tComp (wi : TI) (bs : List Bool) (n : Nat) (g : TG) (tt : TT) (te : TE) : TE := fun σ H Q => wi σ H fun J H1 => ∀ acc, H1 acc = none → CompW J acc g tt te (maskS bs n σ) H1 Q

/-- the tests of a clause -/
def PTs (X : Cx) (ifs : List Expr) (t : TT) : Prop :=
  ∀ (pins : List (Addr × Obj)) (s : Shared) (σ : St) (H : Hp) (Q : Bool → Hp → Prop), Inv X pins σ H s → t σ H Q →
    wpAny (model X.prog X.w) X.A (forIn ifs true fun c r => if r = true then do let ok ← isTrue c X.env (eval c X.env); pure (ForInStep.yield ok) else pure (ForInStep.yield r)) (TP X pins σ Q) X.xe s
def tYes : TT := fun _ H Q => Q true H
theorem pts_nil {X : Cx} : PTs X [] tYes := fun _ _ _ H _ I h => wpAny_tests_nil ⟨H, I, h⟩
/-- what the block asks of the scopes -/
structure CompS (X : Cx) (scope : Scope) (cl : List (Str × Addr)) (bs : List Bool) (ext : List Str) : Prop where
  clos : closureFor scope X.env = pure cl
  cell : ∀ y ∈ scope.names, y.2 ≠ .cell
  kind : scope.kind = .function
  names : ∀ y ∈ scope.names, y.2 = .local → scope.names.lookup y.1 = some .local
  sub : ∀ x c, cl.lookup x = some c → X.env.cells.lookup x = some c
  has : ∀ x, ((relabel scope X.env).names.lookup x = some .cell ∨ (relabel scope X.env).names.lookup x = some .free) → ∃ c, cl.lookup x = some c
  len : bs.length = X.N.length
  vis : ∀ (i : Nat) x, X.N[i]? = some x → bs[i]? = some true → Vis (relabel scope X.env) x → (relabel scope X.env).names.lookup x ≠ some .local ∧ (X.env.kindOf x = some .cell ∨ X.env.kindOf x = some .free) ∧ Vis X.env.scope x

theorem maskS_len {bs : List Bool} {n : Nat} {σ : St} (h : bs.length = σ.length) : (maskS bs n σ).length = σ.length + n := by
  unfold maskS; simp [h]
theorem maskS_get {bs : List Bool} {n : Nat} {σ : St} (h : bs.length = σ.length) {i : Nat} {v : V} (e : (maskS bs n σ)[i]? = some (some v)) : i < σ.length ∧ bs[i]? = some true ∧ σ[i]? = some (some v) := by
  unfold maskS at e
  by_cases hi : i < σ.length
  · rw [List.getElem?_append_left (by simp [h]; exact hi), List.getElem?_map] at e
    have hb : i < bs.length := by omega
    rw [List.getElem?_eq_getElem (by simp [h]; exact hi)] at e
    simp only [List.getElem_zip, Option.map_some] at e
    split at e
    · rename_i hb2
      refine ⟨hi, ?_, ?_⟩
      · rw [List.getElem?_eq_getElem hb]; rw [hb2]
      · rw [List.getElem?_eq_getElem hi]; exact e
    · cases e
  · rw [List.getElem?_append_right (by simp [h]; omega), List.getElem?_replicate] at e
    split at e <;> cases e

section
variable {X : Cx} {pins : List (Addr × Obj)} {σ : St} {H : Hp} {s : Shared}
theorem cxC_ok {scope : Scope} {cl : List (Str × Addr)} {bs : List Bool} {ext : List Str} {fp : List Addr} (S : CompS X scope cl bs ext) (I : Inv X pins σ H s) (hf : ∀ b ∈ fp, FpOk X pins H b) (hfs : ∀ b ∈ fp, b < s.heap.objs.size) :
    (cxC X scope cl (X.N ++ ext) fp s H).Ok where
  mod := I.ok.mod
  kind := S.kind
  glob := I.ok.glob
  blt := I.ok.blt
  above := Nat.le_refl _
  inj := fun x y c a b => I.ok.inj x y c (S.sub x c a) (S.sub y c b)
  has := S.has
  cab := fun x c h => nomatch h
  hd := I.ok.hd
  frames := I.ok.frames
  stk := .inl rfl
  exf := fun b hb => ⟨Nat.ne_of_lt (hfs b hb), fun x c e => (hf b hb).2.2.2.2.1 x c (S.sub x c e)⟩
  bs := I.bs
  bsz := Nat.le_trans I.ok.bsz I.sz
  noex := fun b o e hb => by
    rcases (hf b hb).2.2.2.1 with z | z
    · exact I.ok.noex b o e z
    · exact absurd (Nat.lt_of_lt_of_le (Nat.lt_of_lt_of_le (Heap.lt_size e) I.ok.bsz) z) (Nat.lt_irrefl _)
  exfs := fun b hb z => by
    rcases List.mem_cons.mp (I.stkSub b z) with q | q
    · exact (hf b hb).2.1 q
    · exact (hf b hb).2.2.1 q
  funs := I.stack
  frf := I.stkFree

theorem cxC_start {scope : Scope} {cl : List (Str × Addr)} {bs : List Bool} {ext : List Str} {fp : List Addr} {h1 : Heap} {t' : Nat} (S : CompS X scope cl bs ext) (I : Inv X pins σ H s) (hf : ∀ b ∈ fp, FpOk X pins H b) (hfs : ∀ b ∈ fp, b < s.heap.objs.size)
    (hn : h1.Ns s.heap.objs.size (fun _ => none)) (k : ∀ b o, s.heap.get? b = some o → h1.get? b = some o) :
    Inv (cxC X scope cl (X.N ++ ext) fp s H) [] (maskS bs ext.length σ) H { s with heap := h1, toks := t' } := by
  have hl : bs.length = σ.length := S.len.trans I.len.symm
  have cellk : ∀ c v, s.heap.IsCell c v → h1.IsCell c v := fun c v ⟨o, ho, hd⟩ => ⟨o, k c o ho, hd⟩
  refine ⟨cxC_ok S I hf hfs, rfl, I.bare, Un.kept k, ⟨_, hn, fun i x v e1 e2 e3 => ?_⟩, fun x c e => ?_, I.hok.fresh (Nat.le_refl _), fun x c e => I.freeC x c (S.sub x c e), fun p hp => absurd hp (by simp [cxC]), I.hok.kept k, ?_⟩
  · obtain ⟨hi, hb, hs⟩ := maskS_get hl e2
    have e1' : X.N[i]? = some x := by
      have e1'' : (X.N ++ ext)[i]? = some x := e1
      rwa [List.getElem?_append_left (by have := I.len; omega)] at e1''
    obtain ⟨nl, kk, vv⟩ := S.vis i x e1' hb e3
    obtain ⟨m, _, hloc⟩ := I.loc
    obtain ⟨u, r, l⟩ := hloc i x v e1' hs vv
    refine ⟨u, r, .inr ⟨?_, ?_⟩⟩
    · rcases e3 with z | z | z
      · exact absurd z nl
      · exact .inl z
      · exact .inr z
    · have hc := S.has x (by
        rcases e3 with z | z | z
        · exact absurd z nl
        · exact .inl z
        · exact .inr z)
      obtain ⟨c, hc⟩ := hc
      rcases l with ⟨kl, _⟩ | ⟨_, c', hc', hcell⟩
      · rcases kk with z | z <;> (rw [kl] at z; cases z)
      · rw [S.sub x c hc] at hc'
        cases hc'
        exact ⟨c, hc, cellk c _ hcell⟩
  · obtain ⟨v, z⟩ := I.cell x c (S.sub x c e)
    exact ⟨v, cellk c v z⟩
  · rw [maskS_len hl, I.len]; show _ = (X.N ++ ext).length; simp

/-- behind the block -/
theorem cxC_end {scope : Scope} {cl : List (Str × Addr)} {ext : List Str} {fp : List Addr} {σ' : St} {H' : Hp} {s' : Shared} {h' : Heap} {pins' : List (Addr × Obj)} (I : Inv X pins σ H s) (hf : ∀ b ∈ fp, FpOk X pins H b)
    (J : Inv (cxC X scope cl (X.N ++ ext) fp s H) pins' σ' H' s') (sb : Heap.SameBut s.heap.objs.size s'.heap h') : Inv X pins σ H' { s' with heap := h' } := by
  have B : Un (frs X.stack) fp H H' s.heap s'.heap := J.base
  have nC : ∀ b o, s.heap.get? b = some o → b ≠ s.heap.objs.size := fun b o e => Nat.ne_of_lt (Heap.lt_size e)
  refine I.call' (ch := fp) (s' := { s' with heap := h' }) J.os ⟨fun b o e n hb hx => ?_, fun b o e n hb hx => ?_, fun b o e n hx => B.free b o e n hx, fun b o e hx => ?_, B.tups, B.frzs, B.tbls⟩ ?_ J.bare fun b hb => ⟨(hf b hb).2.2.2.1, (hf b hb).2.1, (hf b hb).2.2.2.2.1, (hf b hb).2.2.2.2.2⟩
  · exact sb.extBut b o (nC b o e) (B.keep b o e n hb hx)
  · obtain ⟨sl, q⟩ := B.slot b o e n hb hx
    exact ⟨sl, sb.extBut b _ (nC b o e) q⟩
  · obtain ⟨o', q⟩ := B.there b o e hx
    exact ⟨o', sb.extBut b o' (nC b o e) q⟩
  · intro a o e
    have fr : H' s.heap.objs.size = none := J.free
    refine (J.hok a o e).stay (fun b u hb q => sb.extBut b u ?_ q) (fun _ q => q) fun _ _ q => q
    rcases hb with z | z
    · subst z; intro z; rw [z, fr] at e; cases e
    · intro z2; rw [z2, fr] at z; cases z
end

section
variable {X : Cx} {elt tg iter : Expr} {ifs : List Expr} {scope : Scope} {cl : List (Str × Addr)} {bs : List Bool} {ext : List Str} {pos : Pos} {wi : TI} {g : TG} {tt : TT} {te : TE}
theorem comp_run {use : Option (Value → Sem Unit)} {pins : List (Addr × Obj)} {s : Shared} {σ : St} {H : Hp} {Q : VK} {RR : Value → Shared → Prop} (S : CompS X scope cl bs ext) (hc : X.calm = true) (hi : PI X tg iter wi)
    (hg : ∀ fp s H, PG (cxC X scope cl (X.N ++ ext) fp s H) tg g) (ht : ∀ fp s H, PTs (cxC X scope cl (X.N ++ ext) fp s H) ifs tt) (he : ∀ fp s H, PE (cxC X scope cl (X.N ++ ext) fp s H) elt te)
    (hs : ∀ x, foldedSetIterable iter X.env x = pure x) (I : Inv X pins σ H s) (h : tComp wi bs ext.length g tt te σ H Q) (ep : Pos)
    (hend : ∀ (acc : Addr) (s2 : Shared) (H2 : Hp) (fp : List Addr) (σ' : St) (H' : Hp) (s' : Shared), Inv X pins σ H2 s2 → (∀ b ∈ fp, FpOk X pins H2 b) → Inv (cxC X scope cl (X.N ++ ext) fp s2 H2) [] σ' H' s' → Q (.ref acc) H' →
      compPost (model X.prog X.w) X.A X.xe use RR (.ref acc) s2.heap.objs.size (.ok .next) s') :
    wpAny (model X.prog X.w) X.A (comprehension (.ListComp elt [⟨tg, iter, ifs, 0⟩] scope pos) scope X.env ep (newList []) false (eval iter X.env) use) RR X.xe s := by
  refine wpAny_comprehension_free (use := use) rfl hs S.clos S.kind S.names (thn (hi pins s σ H _ I h) fun v s1 h1 => thn h1 fun itv s2 h2 => ?_)
  obtain ⟨it, fp, tn, J, H2, e, I2, T, st2, f2, hW⟩ := h2
  subst e
  refine wpAny_newList ?_ (by decide)
  have hn2 : H2 s2.heap.objs.size = none := I2.hok.fresh (Nat.le_refl _)
  obtain ⟨W, ⟨m0, w0⟩, turn⟩ := hW s2.heap.objs.size hn2
  have I3 := I2.lnew (its := []) (ys := []) (t' := s2.toks) .nil (Nat.zero_le _)
  generalize hs3 : ({ s2 with heap := s2.heap.push { cls := .type "list", data := .seq ([] : List Value).toArray }, toks := s2.toks } : Shared) = s3 at I3
  have hsz3 : s3.heap.objs.size = s2.heap.objs.size + 1 := by rw [← hs3]; exact Heap.size_push ..
  have k3 : ∀ b o, s2.heap.get? b = some o → s3.heap.get? b = some o := fun b o e => by rw [← hs3]; exact Heap.get?_push_of_some _ e
  have fpo : ∀ b ∈ fp, b < s2.heap.objs.size := fun b hb => by obtain ⟨o, e, _⟩ := T.obj _ _ st2 b hb; exact Heap.lt_size e
  have f3 : ∀ b ∈ fp, FpOk X pins (upd H2 s2.heap.objs.size (.lst [])) b := fun b hb => ⟨by rw [upd_ne (Nat.ne_of_lt (fpo b hb))]; exact (f2 b hb).1, (f2 b hb).2⟩
  have fps : ∀ b ∈ fp, b < s3.heap.objs.size := fun b hb => by rw [hsz3]; exact Nat.lt_succ_of_lt (fpo b hb)
  have st3 : tn 0 s3.heap := T.keep _ _ _ st2 fun b hb o e => k3 b o e
  refine wpAny_newFunctionEnv S.cell (by intro y hy; simp at hy) (fun h4 hns4 hsb4 => ?_) S.kind
  have k4 : ∀ b o, s3.heap.get? b = some o → h4.get? b = some o := fun b o e => hsb4.extBut b o (Nat.ne_of_lt (Heap.lt_size e)) (Heap.get?_push_of_some _ e)
  have I4 := cxC_start (ext := ext) (t' := s3.toks + ([] : List (Str × Value)).length) S I3 f3 fps (h1 := h4) hns4 k4
  have st4 : tn 0 h4 := T.keep _ _ _ st3 fun b hb o e => k4 b o e
  generalize hs4 : ({ s3 with heap := h4, toks := s3.toks + ([] : List (Str × Value)).length } : Shared) = s4 at I4 ⊢
  have st4' : tn 0 s4.heap := by rw [← hs4]; exact st4
  -- the block
  generalize hY : cxC X scope cl (X.N ++ ext) fp s3 (upd H2 s2.heap.objs.size (.lst [])) = Y at I4
  have hYs : ∀ {H' : Hp}, (∀ b ∈ fp, H' b = none) → ∀ b ∈ fp, FpOk Y [] H' b := fun hn b hb => by
    subst hY
    refine ⟨hn b hb, Nat.ne_of_lt (fps b hb), fun z => ?_, .inl hb, fun x c e => (f3 b hb).2.2.2.2.1 x c (S.sub x c e), fun p hp => absurd hp (by simp [cxC])⟩
    rcases List.mem_cons.mp (I3.stkSub b z) with q | q
    · exact (f3 b hb).2.1 q
    · exact (f3 b hb).2.2.1 q
  have hgY : PG Y tg g := by subst hY; exact hg _ _ _
  have htY : PTs Y ifs tt := by subst hY; exact ht _ _ _
  have heY : PE Y elt te := by subst hY; exact he _ _ _
  have hYc : Y.calm = true := by subst hY; exact hc
  have hYm : Y.prog = X.prog ∧ Y.w = X.w ∧ Y.K = X.K ∧ Y.A = X.A ∧ Y.env = compEnvC scope cl s3.heap.objs.size X.env ∧ Y.xe = fun _ _ => False := by subst hY; exact ⟨rfl, rfl, rfl, rfl, rfl, rfl⟩
  obtain ⟨e1, e2, e3, e4, e5, e6⟩ := hYm
  have never : ∀ {α : Type} {t : Sem α} {Q : α → Shared → Prop} {s : Shared} {E : Value → Shared → Prop}, wpAny (model Y.prog Y.w) Y.A t Q Y.xe s → wpAny (model X.prog X.w) X.A t Q E s := fun {α t Q s E} q => by
    rw [e1, e2, e4, e6] at q
    exact wpAny_mono q (fun _ _ z => z) fun _ _ z => z.elim
  have loop : codeAny (model X.prog X.w) X.A (.compLoop (.ListComp elt [⟨tg, iter, ifs, 0⟩] scope pos) 0 (.ref it) (.ref s2.heap.objs.size) (compEnvC scope cl s3.heap.objs.size X.env))
      (compPost (model X.prog X.w) X.A X.xe use RR (.ref s2.heap.objs.size) s3.heap.objs.size) s4 := by
    refine codeAny_loop rfl (fun n s' => ∃ i H', Inv Y [] (maskS bs ext.length σ) H' s' ∧ tn i s'.heap ∧ (∀ b ∈ fp, H' b = none) ∧ W i n H') (fun n s5 hI => ?_) m0 ⟨0, _, I4, st4', fun b hb => (f3 b hb).1, w0⟩
    obtain ⟨i, H5, I5, st5, fr5, w5⟩ := hI
    show wpAny _ X.A ((compTurn (.ListComp elt [⟨tg, iter, ifs, 0⟩] scope pos) 0 (.ref it) (.ref s2.heap.objs.size) (compEnvC scope cl s3.heap.objs.size X.env)).onRaise (fun x => do noteFrame x (compEnvC scope cl s3.heap.objs.size X.env); theTreesLotGoes x)) _ _ s5
    refine wpAny_noted ?_
    rw [compTurn_list]
    rcases turn i n H5 w5 with ⟨stop, qn⟩ | ⟨go, N, hN, step⟩
    · refine wpAny_bind (wpAny_standAt (wpAny_bind ?_))
      have hd := T.done Y e1 e2 e3 hYc i [] s5 _ H5 (fun _ _ => False) I5 (hYs fr5) st5 stop
      rw [e4] at hd
      refine wpAny_mono hd (fun r s6 ⟨hr, I6⟩ => ?_) fun _ _ z => z.elim
      subst hr
      subst hY
      exact wpAny_pure (hend s2.heap.objs.size s3 _ fp _ H5 s6 I3 f3 I6 qn)
    · refine wpAny_bind (wpAny_standAt (wpAny_bind ?_))
      have hd := T.item Y e1 e2 e3 hYc i [] s5 _ H5 (fun _ _ => False) I5 (hYs fr5) st5 go
      rw [e4] at hd
      refine wpAny_mono hd (fun r s6 ⟨u, hr, h6⟩ => ?_) fun _ _ z => z.elim
      subst hr
      refine wpAny_bind (wpAny_mono h6 (fun _ s7 ⟨x, H7, I7, r7, y7, st7, fr7⟩ => ?_) fun _ _ z => z.elim)
      have I7' := I7.pinned (hYs fr7) (T.obj _ _ st7)
      rw [← e5]
      refine wpAny_bind (never (thn (hgY _ s7 _ H7 x u _ I7' r7 (step x H7 y7)) fun _ s8 ⟨σ8, H8, I8, ⟨hx8, hl8⟩, q8⟩ => ?_))
      refine wpAny_bind (never (thn (htY _ s8 σ8 H8 _ I8 q8) fun b s9 ⟨H9, I9, q9⟩ => ?_))
      have again : ∀ {H10 : Hp} {s10 : Shared} {m' : Nat}, Inv Y ([] ++ pinsAt fp s7.heap) σ8 H10 s10 → m' < n → W (i + 1) m' H10 → ∃ m, m < n ∧ ∃ i H', Inv Y [] (maskS bs ext.length σ) H' s10 ∧ tn i s10.heap ∧ (∀ b ∈ fp, H' b = none) ∧ W i m H' := fun {H10 s10 m'} I10 hm w10 => by
        refine ⟨m', hm, i + 1, H10, (I10.unpinned).weak hl8.symm hx8, T.keep _ _ _ st7 fun b hb o e => (I10.pin (b, o) (List.mem_append_right _ (List.mem_append_right _ (mem_pinsAt hb e)))).1, fun b hb => ?_, w10⟩
        obtain ⟨o, e, d⟩ := T.obj _ _ st7 b hb
        exact (I10.pin (b, o) (List.mem_append_right _ (List.mem_append_right _ (mem_pinsAt hb e)))).2.1
      cases b with
      | false =>
        rw [if_neg Bool.false_ne_true] at q9
        obtain ⟨m', hm, w9⟩ := hN _ q9
        exact wpAny_pure ⟨by rw [e5], again I9 hm w9⟩
      | true =>
        rw [if_pos rfl] at q9
        refine wpAny_bind (wpAny_bind (never (thn (heY _ s9 σ8 H9 _ I9 q9) fun xv s10 ⟨y, H10, I10, r10, ys, hys, hz, n10⟩ => ?_)))
        obtain ⟨m', hm, w10⟩ := hN _ n10
        refine wpAny_bind (never (thn (mt_append (X := Y) _ s10 σ8 H10 (.ref s2.heap.objs.size) [y] (.ref s2.heap.objs.size) [xv] (fun _ H => ∃ m', m' < n ∧ W (i + 1) m' H) I10 rfl (.cons r10 .nil) ⟨_, ys, y, rfl, rfl, hys, hz, m', hm, w10⟩) fun _ s11 ⟨_, H11, I11, _, m2, hm2, w11⟩ => ?_))
        exact wpAny_pure (wpAny_pure ⟨by rw [e5], again I11 hm2 w11⟩)
  exact codeAny_compStart_list loop (T.self X.A 0 s4 _ _ st4' loop)

/-- [elt for tg in iter if ..] -/
theorem pe_comp (S : CompS X scope cl bs ext) (hc : X.calm = true) (hi : PI X tg iter wi)
    (hg : ∀ fp s H, PG (cxC X scope cl (X.N ++ ext) fp s H) tg g) (ht : ∀ fp s H, PTs (cxC X scope cl (X.N ++ ext) fp s H) ifs tt) (he : ∀ fp s H, PE (cxC X scope cl (X.N ++ ext) fp s H) elt te)
    (hs : ∀ x, foldedSetIterable iter X.env x = pure x := by intro _; rfl) : PE X (.ListComp elt [⟨tg, iter, ifs, 0⟩] scope pos) (tComp wi bs ext.length g tt te) := by
  intro pins s σ H Q I h
  rw [eval_ListComp]
  refine comp_run (use := none) S hc hi hg ht he hs I h _ fun acc s2 H2 fp σ' H' s' I2 f2 J q => ?_
  obtain ⟨m, hn, _⟩ := J.loc
  exact ⟨m, hn, fun h' sb => ⟨.ref acc, H', cxC_end I2 f2 J sb, rfl, q⟩⟩
end
/-! ### the forms one uses -/
theorem comp_list {K : PySem.W.Frag} {a acc : Addr} {xs : List V} {g : TG} {tt : TT} {te : TE} {σ0 : St} {H1 : Hp} {Q : VK} (Pv : Nat → Hp → Prop) (h0 : Pv 0 (upd H1 acc (.lst []))) (hl : ∀ i H, i ≤ xs.length → Pv i H → SqL K H a xs)
    (hs : ∀ i x H, xs[i]? = some x → Pv i H → g x σ0 H fun σ4 H4 => (ExtS σ0 σ4 ∧ σ4.length = σ0.length) ∧ tt σ4 H4 fun b H5 =>
      if b = true then te σ4 H5 fun v H6 => ∃ ys, H6 acc = some (.lst ys) ∧ ys.length < sizeLine ∧ Pv (i + 1) (upd H6 acc (.lst (ys ++ [v]))) else Pv (i + 1) H5)
    (hd : ∀ H, Pv xs.length H → Q (.ref acc) H) : CompW (Itl K a) acc g tt te σ0 H1 Q := by
  refine ⟨fun i m H => m = xs.length - i ∧ i ≤ xs.length ∧ Pv i H, ⟨xs.length, by simp, Nat.zero_le _, h0⟩, ?_⟩
  rintro i m H ⟨rfl, hi, p⟩
  have q := hl i H hi p
  by_cases hlt : i < xs.length
  · refine .inr ⟨⟨xs, xs[i], q, by simp [hlt]⟩, Pv (i + 1), fun H' p' => ⟨xs.length - (i + 1), by omega, rfl, hlt, p'⟩, fun x H' y => ?_⟩
    obtain ⟨e, y⟩ := y
    subst e
    exact hs i x _ (y xs q) p
  · have e : i = xs.length := by omega
    subst e
    exact .inl ⟨⟨xs, q, Nat.le_refl _⟩, hd H p⟩
theorem comp_range {acc : Addr} {lo : Int} {n : Nat} {g : TG} {tt : TT} {te : TE} {σ0 : St} {H1 : Hp} {Q : VK} (Pv : Nat → Hp → Prop) (h0 : Pv 0 (upd H1 acc (.lst [])))
    (hs : ∀ (i : Nat) H, i < n → Pv i H → g (.int (lo + i)) σ0 H fun σ4 H4 => (ExtS σ0 σ4 ∧ σ4.length = σ0.length) ∧ tt σ4 H4 fun b H5 =>
      if b = true then te σ4 H5 fun v H6 => ∃ ys, H6 acc = some (.lst ys) ∧ ys.length < sizeLine ∧ Pv (i + 1) (upd H6 acc (.lst (ys ++ [v]))) else Pv (i + 1) H5)
    (hd : ∀ H, Pv n H → Q (.ref acc) H) : CompW (Itr lo n) acc g tt te σ0 H1 Q := by
  refine ⟨fun i m H => m = n - i ∧ i ≤ n ∧ Pv i H, ⟨n, by simp, Nat.zero_le _, h0⟩, ?_⟩
  rintro i m H ⟨rfl, hi, p⟩
  by_cases hlt : i < n
  · refine .inr ⟨hlt, Pv (i + 1), fun H' p' => ⟨n - (i + 1), by omega, rfl, hlt, p'⟩, fun x H' y => ?_⟩
    obtain ⟨e, y⟩ := y
    subst e y
    exact hs i _ hlt p
  · have e : i = n := by omega
    subst e
    exact .inl ⟨Nat.le_refl _, hd H p⟩
end L2

namespace L2
open PySem PySem.Spec PyProof.Rows

def clOf (env : Env) : List (Str × NameKind) → List (Str × Addr) → List (Str × Addr)
  | [], cs => cs
  | (n, k) :: r, cs => clOf env r (if (k == NameKind.free) = true then (n, (env.cells.lookup n).getD 0) :: cs else cs)
theorem clos_eq {env : Env} (scope : Scope) (h : ∀ p ∈ scope.names, p.2 = .free → ∃ c, env.cells.lookup p.1 = some c) : closureFor scope env = pure (clOf env scope.names []) := by
  unfold closureFor
  generalize ([] : List (Str × Addr)) = cs0
  generalize scope.names = ns at h
  have key : ∀ (ns : List (Str × NameKind)) (cs : List (Str × Addr)), (∀ p ∈ ns, p.2 = .free → ∃ c, env.cells.lookup p.1 = some c) →
      (forIn ns cs fun (x : Str × NameKind) (r : List (Str × Addr)) => (match x with | (name, kind) => if (kind == NameKind.free) = true then do let c ← cellOf env name; pure (ForInStep.yield ((name, c) :: r)) else pure (ForInStep.yield r) : Sem (ForInStep (List (Str × Addr))))) = pure (clOf env ns cs) := by
    intro ns
    induction ns with
    | nil => intro cs _; rfl
    | cons p r ih =>
      intro cs hp
      obtain ⟨n, k⟩ := p
      rw [List.forIn_cons]
      by_cases hk : (k == NameKind.free) = true
      · obtain ⟨c, hc⟩ := hp (n, k) List.mem_cons_self (by simpa using hk)
        have hcell : cellOf env n = pure c := by unfold cellOf; rw [hc]
        simp only [hk, if_true, hcell, pure_bind]
        rw [ih _ fun q hq => hp q (List.mem_cons_of_mem _ hq)]
        have hc' : List.lookup n env.cells = some c := hc
        simp [clOf, hk, hc']
      · simp only [hk, Bool.false_eq_true, if_false, pure_bind]
        rw [ih _ fun q hq => hp q (List.mem_cons_of_mem _ hq)]
        simp [clOf, hk]
  have := key ns cs0 h
  rw [show (do
      let mut cs := cs0
      for (name, kind) in ns do
        if kind == .free then cs := (name, ← cellOf env name) :: cs
      return cs : Sem (List (Str × Addr))) = (forIn ns cs0 fun (x : Str × NameKind) (r : List (Str × Addr)) => (match x with | (name, kind) => if (kind == NameKind.free) = true then do let c ← cellOf env name; pure (ForInStep.yield ((name, c) :: r)) else pure (ForInStep.yield r) : Sem (ForInStep (List (Str × Addr))))) >>= pure from rfl]
  rw [this, pure_bind]
theorem clOf_sub {env : Env} : ∀ (ns : List (Str × NameKind)) (cs : List (Str × Addr)), (∀ p ∈ ns, p.2 = .free → ∃ c, env.cells.lookup p.1 = some c) → (∀ x c, cs.lookup x = some c → env.cells.lookup x = some c) → ∀ x c, (clOf env ns cs).lookup x = some c → env.cells.lookup x = some c
  | [], cs, _, h, x, c, e => h x c e
  | (n, k) :: r, cs, hp, h, x, c, e => by
    refine clOf_sub r _ (fun q hq => hp q (List.mem_cons_of_mem _ hq)) (fun y d e' => ?_) x c e
    split at e'
    · rename_i hk
      obtain ⟨c', hc⟩ := hp (n, k) List.mem_cons_self (by simpa using hk)
      rw [List.lookup_cons] at e'
      have hc' : List.lookup n env.cells = some c' := hc
      rw [hc'] at e'
      split at e'
      · rename_i hy
        have hy' : y = n := by simpa using hy
        subst hy'
        rw [← e']; exact hc'
      · exact h y d e'
    · exact h y d e'
theorem clOf_has {env : Env} : ∀ (ns : List (Str × NameKind)) (cs : List (Str × Addr)) (x : Str), ((x, NameKind.free) ∈ ns ∨ ∃ c, cs.lookup x = some c) → ∃ c, (clOf env ns cs).lookup x = some c
  | [], cs, x, h => by
    rcases h with h | h
    · cases h
    · exact h
  | (n, k) :: r, cs, x, h => by
    refine clOf_has r _ x ?_
    rcases h with h | ⟨c, h⟩
    · rcases List.mem_cons.mp h with h | h
      · injection h with h1 h2
        subst h1 h2
        right
        exact ⟨_, by simp [List.lookup_cons]; rfl⟩
      · exact .inl h
    · right
      split
      · rw [List.lookup_cons]
        split
        · exact ⟨_, rfl⟩
        · exact ⟨c, h⟩
      · exact ⟨c, h⟩
def compChk (scope : Scope) (env : Env) (N : List Str) (bs : List Bool) : Bool :=
  scope.names.all (fun p => p.2 != .cell) && (scope.kind == .function) && scope.names.all (fun p => p.2 != .local || scope.names.lookup p.1 == some .local) && (bs.length == N.length)
    && scope.names.all (fun p => p.2 != .free || (env.kindOf p.1 == some .cell || env.kindOf p.1 == some .free)) && (N.zip bs).all (fun p => !p.2 || scope.names.lookup p.1 == some .free)
theorem mem_of_lookup {β : Type} {x : Str} {b : β} : ∀ {l : List (Str × β)}, l.lookup x = some b → (x, b) ∈ l
  | [], h => by simp at h
  | (y, c) :: r, h => by
    rw [List.lookup_cons] at h
    split at h
    · rename_i hy
      have : x = y := by simpa using hy
      subst this; cases h; exact List.mem_cons_self
    · exact List.mem_cons_of_mem _ (mem_of_lookup h)
theorem lookup_relabel' {env : Env} : ∀ {names : List (Str × NameKind)} {x : Str} {k : NameKind},
    (names.map fun (n, k) => if (k == NameKind.free && env.scope.kind == .function && env.kindOf n == some .cell) then (n, NameKind.cell) else (n, k)).lookup x = some k → names.lookup x = some k ∨ (k = .cell ∧ names.lookup x = some .free)
  | [], _, _, h => by simp at h
  | (n, k') :: r, x, k, h => by
    have ih := @lookup_relabel' env r x k
    have h' : List.lookup x ((if (k' == NameKind.free && env.scope.kind == .function && env.kindOf n == some .cell) = true then (n, NameKind.cell) else (n, k')) :: (r.map fun (n, k) => if (k == NameKind.free && env.scope.kind == .function && env.kindOf n == some .cell) then (n, NameKind.cell) else (n, k))) = some k := h
    by_cases hc : (k' == NameKind.free && env.scope.kind == .function && env.kindOf n == some .cell) = true
    · rw [if_pos hc, List.lookup_cons] at h'
      rw [List.lookup_cons]
      have hf : k' = .free := by
        cases k' <;> first | rfl | (exfalso; revert hc; simp)
      split at h'
      · right
        injection h' with h'
        rw [hf]
        exact ⟨h'.symm, rfl⟩
      · exact ih h'
    · rw [if_neg hc, List.lookup_cons] at h'
      rw [List.lookup_cons]
      split at h'
      · exact .inl h'
      · exact ih h'
theorem CompS.of {X : Cx} {scope : Scope} {bs : List Bool} {ext : List Str} {pins : List (Addr × Obj)} {σ : St} {H : Hp} {s : Shared} (I : Inv X pins σ H s) (h : compChk scope X.env X.N bs = true) : CompS X scope (clOf X.env scope.names []) bs ext := by
  unfold compChk at h
  simp only [Bool.and_eq_true, List.all_eq_true] at h
  obtain ⟨⟨⟨⟨⟨h1, h2⟩, h3⟩, h4⟩, h5⟩, h6⟩ := h
  have hc : ∀ p ∈ scope.names, p.2 = .free → ∃ c, X.env.cells.lookup p.1 = some c := fun p hp hf => by
    have := h5 p hp
    rw [hf] at this
    refine I.ok.has p.1 ?_
    simpa using this
  have nocell : ∀ {x : Str}, scope.names.lookup x ≠ some .cell := fun {x} e => by
    have := h1 _ (mem_of_lookup e)
    simp at this
  refine ⟨clos_eq scope hc, fun y hy => by simpa using h1 y hy, by simpa using h2, fun y hy hl => ?_, fun x c e => clOf_sub scope.names [] hc (fun _ _ z => by simp at z) x c e, fun x hx => ?_, by simpa using h4, fun i x hN hb hv => ?_⟩
  · have := h3 y hy
    rw [hl] at this
    simpa using this
  · refine clOf_has scope.names [] x (.inl ?_)
    rcases hx with hx | hx
    · rcases lookup_relabel' hx with z | ⟨_, z⟩
      · exact absurd z nocell
      · exact mem_of_lookup z
    · rcases lookup_relabel' hx with z | ⟨z, _⟩
      · exact mem_of_lookup z
      · cases z
  · have hz : (x, true) ∈ X.N.zip bs := by
      have : (X.N.zip bs)[i]? = some (x, true) := by
        rw [List.getElem?_zip_eq_some]; exact ⟨hN, hb⟩
      exact List.mem_of_getElem? this
    have hf := h6 _ hz
    have hf : scope.names.lookup x = some .free := by simpa using hf
    have hk := h5 _ (mem_of_lookup hf)
    have hk : X.env.kindOf x = some .cell ∨ X.env.kindOf x = some .free := by simpa using hk
    refine ⟨fun z => ?_, hk, ?_⟩
    · rcases lookup_relabel' z with q | ⟨q, _⟩
      · rw [hf] at q; cases q
      · cases q
    · rcases hk with q | q
      · exact .inr (.inl q)
      · exact .inr (.inr q)

section
variable {X : Cx} {elt tg iter : Expr} {ifs : List Expr} {scope : Scope} {bs : List Bool} {ext : List Str} {pos : Pos} {wi : TI} {g : TG} {tt : TT} {te : TE}
/-- the block's context -/
abbrev cxB (X : Cx) (scope : Scope) (ext : List Str) (fp : List Addr) (s : Shared) (H : Hp) : Cx := cxC X scope (clOf X.env scope.names []) (X.N ++ ext) fp s H
theorem pe_lc (bs : List Bool) (ext : List Str) (hi : PI X tg iter wi) (hg : ∀ fp s H, PG (cxB X scope ext fp s H) tg g) (ht : ∀ fp s H, PTs (cxB X scope ext fp s H) ifs tt) (he : ∀ fp s H, PE (cxB X scope ext fp s H) elt te)
    (hk : compChk scope X.env X.N bs = true := by rfl) (hc : X.calm = true := by rfl) (hs : ∀ x, foldedSetIterable iter X.env x = pure x := by intro _; rfl) :
    PE X (.ListComp elt [⟨tg, iter, ifs, 0⟩] scope pos) (tComp wi bs ext.length g tt te) := fun pins s σ H Q I h => pe_comp (CompS.of I hk) hc hi hg ht he hs pins s σ H Q I h
end
/-! ### floor division by a great number -/
def CDivB (i j : Int) : Prop := 0 < j ∧ j.natAbs.log2 < 9000
theorem noPyl {i j : Int} (h : CDivB i j) : Builtin.divisionGoesByPylong i j = false := PyProof.noPylong_of_log2 h.2
theorem op_fdivB {X : Cx} : OpR X (binaryOp .FloorDiv) (rI CDivB fun i j => .int (i / j)) := opI fun i j _ _ _ _ _ hc q => by
  refine floordiv_int (by have := hc.1; omega) ?_ (.inl (noPyl hc))
  rw [Int.fdiv_eq_ediv_of_nonneg _ (by have := hc.1; omega)]
  exact q
end L2

namespace L2
open PySem PySem.Spec PyProof.Rows
/-! ### readings, as equations -/
section
variable {σ : St} {H : Hp} {Q : VK} {K : PySem.W.Frag} {D : Ends}
theorem rd_I {C : Int → Int → Prop} {g : Int → Int → V} {i j : Int} : rI C g (.int i) (.int j) H Q = (C i j ∧ Q (g i j) H) :=
  propext ⟨fun ⟨_, _, e1, e2, h⟩ => by cases e1; cases e2; exact h, fun h => ⟨i, j, rfl, rfl, h⟩⟩
theorem rd_I0 {g : Int → Int → V} {i j : Int} : rI0 g (.int i) (.int j) H Q = Q (g i j) H :=
  propext ⟨fun ⟨_, _, e1, e2, h⟩ => by cases e1; cases e2; exact h, fun h => ⟨i, j, rfl, rfl, h⟩⟩
theorem rd_U {g : Int → V} {i : Int} : rU g (.int i) H Q = Q (g i) H :=
  propext ⟨fun ⟨_, e1, h⟩ => by cases e1; exact h, fun h => ⟨i, rfl, h⟩⟩
theorem rd_test {t : TE} {R : Bool → Hp → Prop} : tTest t σ H R = t σ H fun x H' => ∃ k, x = .bl k ∧ R k H' := rfl
theorem rd_bl {k : Bool} {R : Bool → Prop} : (∃ k', V.bl k = .bl k' ∧ R k') = R k := propext ⟨fun ⟨_, e, h⟩ => by cases e; exact h, fun h => ⟨k, rfl, h⟩⟩
theorem rd_l1 {i : Int} {R : Int → Prop} : (∃ j, ([V.int i] : List V) = [V.int j] ∧ R j) = R i := propext ⟨fun ⟨_, e, h⟩ => by cases e; exact h, fun h => ⟨i, rfl, h⟩⟩
theorem rd_l2 {a b : Int} {R : Int → Int → Prop} : (∃ i j, ([V.int a, V.int b] : List V) = [V.int i, V.int j] ∧ R i j) = R a b := propext ⟨fun ⟨_, _, e, h⟩ => by cases e; exact h, fun h => ⟨a, b, rfl, h⟩⟩
theorem rd_lr {a : Addr} {R : Addr → List V → Prop} : (∃ p ys, ([V.ref a] : List V) = [V.ref p] ∧ R p ys) = ∃ ys, R a ys := propext ⟨fun ⟨_, ys, e, h⟩ => by cases e; exact ⟨ys, h⟩, fun ⟨ys, h⟩ => ⟨a, ys, rfl, h⟩⟩
theorem upd_old {p x : Addr} {o o' : HO} (hp : H p = none) (h : H x = some o) : upd H p o' x = some o := by rw [upd_ne (ne_of_none h hp)]; exact h
theorem upd_else {p x : Addr} {o o' : HO} (hn : x ≠ p) (h : H x = some o) : upd H p o' x = some o := by rw [upd_ne hn]; exact h
theorem free_upd {p x : Addr} {o' : HO} (h : upd H p o' x = none) : H x = none ∧ x ≠ p := by
  have hx : x ≠ p := fun e => by subst e; rw [upd_same] at h; cases h
  rw [upd_ne hx] at h
  exact ⟨h, hx⟩
theorem Same.upd {H1 : Hp} {p : Addr} {o : HO} (s : Same H H1) (h : H p = none) : Same H (upd H1 p o) := fun b o' e => by
  rw [upd_ne (ne_of_none e h)]; exact s b o' e
theorem ExtS.nl : ExtS [] [] := fun _ _ h => h
theorem ExtS.no {a b : St} {x : Option V} (h : ExtS a b) : ExtS (none :: a) (x :: b) := fun i v e => by
  cases i with
  | zero => simp at e
  | succ i => simpa using h i v (by simpa using e)
theorem ExtS.sm {a b : St} {x : Option V} (h : ExtS a b) : ExtS (x :: a) (x :: b) := fun i v e => by
  cases i with
  | zero => simpa using e
  | succ i => simpa using h i v (by simpa using e)
end
end L2

namespace L2
open PySem PySem.Spec PyProof.Rows
/-! ### a def of the text, as callers use it -/
structure Def (P : Program) (w : World) (K : PySem.W.Frag) (mg : Str → Option Value) (base : Heap) (x : Str) (k : Nat) (ps : List Str) (sp : Sp) : Prop where
  ex : ∃ (f : Addr) (fd : FuncData), mg x = some (.ref f) ∧ PySem.W.keepIn K (.ref f) = true ∧ Binds K fd ps [] ∧ FnOk P w K mg base CX0 k f fd ps sp
section
variable {X : Cx} {x : Str} {k : Nat} {ps : List Str} {sp : Sp} {p pos : Pos} {e : Expr} {es : List Expr} {t : TA}
theorem pe_def (D : Def X.prog X.w X.K X.mg X.base x k ps sp) (hr : Room k X.A) (ha : PA X (e :: es) t) (hg : Gl X x := by rfl) (hdb : (x == ("__debug__" : Str)) = false := by decide) (he : starEach (e :: es) X.env = (false, eval e X.env) :: starEach es X.env := by rfl) (hpl : (backTo pos (starEach es X.env)).any (·.1) = false := by rfl) :
    PE X (.Call (.Name x p) (e :: es) [] pos) (tCall sp [] E0 t) := by
  obtain ⟨f, fd, h1, h2, h3, h4⟩ := D.ex
  exact pe_call h4 hr hg h1 h2 h3 .nil pass0 ha hdb he hpl
end
/-! ### isinstance of one built-in class -/
def rIsi (K : PySem.W.Frag) : List V → Hp → VK → Prop := fun xs H Q => ∃ x n t b, xs = [x, .ty n] ∧ TyOf K H x (.type t) ∧ PySem.W.kitOne K (.type t) (.type n) = some b ∧ Q (.bl b) H
theorem call_isi {X : Cx} : CallR X (.builtin "isinstance") (rIsi X.K) := by
  intro pins s σ H xs us Q I r h
  obtain ⟨x, n, t, b, rfl, ty, e, q⟩ := h
  obtain ⟨u, v, rfl, ru, rv⟩ := vals2 r
  obtain rfl : v = Value.type n := rv
  exact isinst_ok I ru ty e fun tk => ⟨.bl b, H, I.tok tk, rfl, q⟩
/-! ### == through tuples and lists -/
inductive DE (K : PySem.W.Frag) (H : Hp) : Nat → V → V → Bool → Prop
  | flat {n : Nat} {x y : V} : flatV x = true → flatV y = true → DE K H n x y (eqV x y)
  | same {n : Nat} {a : Addr} : DE K H n (.ref a) (.ref a) true
  | tup {n : Nat} {a b : Addr} {xs ys : List V} {e : Nat → Bool} : a ≠ b → SqT K H a xs → SqT K H b ys → (∀ (j : Nat) x y, xs[j]? = some x → ys[j]? = some y → DE K H n x y (e j)) → DE K H (n + 1) (.ref a) (.ref b) ((List.range (min xs.length ys.length)).all e && xs.length == ys.length)
  | lst {n : Nat} {a b : Addr} {xs ys : List V} {e : Nat → Bool} : a ≠ b → SqL K H a xs → SqL K H b ys → xs.length = ys.length → (∀ (j : Nat) x y, xs[j]? = some x → ys[j]? = some y → DE K H n x y (e j)) → DE K H (n + 1) (.ref a) (.ref b) ((List.range xs.length).all e)
  | lstN {n : Nat} {a b : Addr} {xs ys : List V} : a ≠ b → SqL K H a xs → SqL K H b ys → xs.length ≠ ys.length → DE K H (n + 1) (.ref a) (.ref b) false
theorem in1_units {A : Around} : A.in1.units = A.units + 1 := rfl
theorem DE.eqAt {X : Cx} {pins : List (Addr × Obj)} {σ : St} {H : Hp} {s : Shared} (I : Inv X pins σ H s) {n : Nat} {x y : V} {b : Bool} (d : DE X.K H n x y b) : ∀ {A : Around} {u v : Value}, A.units + n < cLine → RelV x u → RelV y v → SeqAt.EqAt A s u v b := by
  induction d with
  | flat f g => intro A u v _ rx ry; exact eqAt_V rx ry f g
  | same =>
    intro A u v _ rx ry
    obtain rfl : u = _ := rx
    obtain rfl : v = _ := ry
    exact SeqAt.EqAt.same _
  | @tup n a b xs ys e ne ha hb _ ih =>
    intro A u v hu rx ry
    obtain rfl : u = Value.ref a := rx
    obtain rfl : v = Value.ref b := ry
    obtain ⟨its, r1, p1, _⟩ := I.tuple ha
    obtain ⟨its2, r2, p2, _⟩ := I.tuple hb
    have := SeqAt.RcAt.tuples (A := A) (e := e) p1 p2 (by omega) fun j h1 h2 => by
      have l1 : j < xs.length := by rw [r1.length]; simpa using h1
      have l2 : j < ys.length := by rw [r2.length]; simpa using h2
      obtain ⟨u1, q1, s1⟩ := r1.get (List.getElem?_eq_getElem l1)
      obtain ⟨u2, q2, s2⟩ := r2.get (List.getElem?_eq_getElem l2)
      have e1 : its.toArray[j] = u1 := by
        have := List.getElem?_eq_some_iff.mp q1
        obtain ⟨_, z⟩ := this
        simpa using z
      have e2 : its2.toArray[j] = u2 := by
        have := List.getElem?_eq_some_iff.mp q2
        obtain ⟨_, z⟩ := this
        simpa using z
      rw [e1, e2]
      exact ih j _ _ (List.getElem?_eq_getElem l1) (List.getElem?_eq_getElem l2) (by rw [in1_units]; omega) s1 s2
    rw [List.size_toArray, List.size_toArray, ← r1.length, ← r2.length] at this
    exact .of_refs ne this
  | @lst n a b xs ys e ne ha hb hl _ ih =>
    intro A u v hu rx ry
    obtain rfl : u = Value.ref a := rx
    obtain rfl : v = Value.ref b := ry
    obtain ⟨its, r1, p1, _⟩ := I.list ha
    obtain ⟨its2, r2, p2, _⟩ := I.list hb
    have := SeqAt.RcAt.lists (A := A) (e := e) p1.isList p2.isList (by simp [← r1.length, ← r2.length, hl]) (by omega) fun j h1 h2 => by
      have l1 : j < xs.length := by rw [r1.length]; simpa using h1
      have l2 : j < ys.length := by rw [r2.length]; simpa using h2
      obtain ⟨u1, q1, s1⟩ := r1.get (List.getElem?_eq_getElem l1)
      obtain ⟨u2, q2, s2⟩ := r2.get (List.getElem?_eq_getElem l2)
      have e1 : its.toArray[j] = u1 := by
        have := List.getElem?_eq_some_iff.mp q1
        obtain ⟨_, z⟩ := this
        simpa using z
      have e2 : its2.toArray[j] = u2 := by
        have := List.getElem?_eq_some_iff.mp q2
        obtain ⟨_, z⟩ := this
        simpa using z
      rw [e1, e2]
      exact ih j _ _ (List.getElem?_eq_getElem l1) (List.getElem?_eq_getElem l2) (by rw [in1_units]; omega) s1 s2
    rw [List.size_toArray, ← r1.length] at this
    exact .of_refs ne this
  | @lstN n a b xs ys ne ha hb hl =>
    intro A u v hu rx ry
    obtain rfl : u = Value.ref a := rx
    obtain rfl : v = Value.ref b := ry
    obtain ⟨its, r1, p1, _⟩ := I.list ha
    obtain ⟨its2, r2, p2, _⟩ := I.list hb
    exact .of_refs ne (SeqAt.RcAt.lists_lengths p1.isList p2.isList (by simp [← r1.length, ← r2.length, hl]) (by omega))
end L2
namespace PySem.SeqAt
open AutoSeq1 (wpAny_loadPart')
open MeetsSeq MeetsSeq2 MeetsSeq3 SeqRoads2
end PySem.SeqAt
namespace L2
open PySem PySem.Spec PyProof.Rows
/-! ### the built-in names, not bound by the text -/
structure Nms (mg : Str → Option Value) : Prop where
  abs : mg "abs" = none
  len : mg "len" = none
  min : mg "min" = none
  max : mg "max" = none
  sum : mg "sum" = none
  sorted : mg "sorted" = none
  all : mg "all" = none
  any : mg "any" = none
  isinstance : mg "isinstance" = none
  range : mg "range" = none
  int : mg "int" = none
  list : mg "list" = none
  str : mg "str" = none
  bool : mg "bool" = none
  tuple : mg "tuple" = none
  zip : mg "zip" = none
  enumerate : mg "enumerate" = none
  dict : mg "dict" = none
theorem b_abs : bootBuiltins "abs" = some (.builtin "abs") := by decide +kernel
theorem b_len : bootBuiltins "len" = some (.builtin "len") := by decide +kernel
theorem b_all : bootBuiltins "all" = some (.builtin "all") := by decide +kernel
theorem b_isinstance : bootBuiltins "isinstance" = some (.builtin "isinstance") := by decide +kernel
theorem b_int : bootBuiltins "int" = some (.type "int") := by decide +kernel
theorem b_list : bootBuiltins "list" = some (.type "list") := by decide +kernel
theorem b_str : bootBuiltins "str" = some (.type "str") := by decide +kernel
theorem b_bool : bootBuiltins "bool" = some (.type "bool") := by decide +kernel
theorem b_tuple : bootBuiltins "tuple" = some (.type "tuple") := by decide +kernel
/-! ### sets of addresses -/
/-- all that was tracked, but b, is as it was -/
def SameB (b : Addr) (H H' : Hp) : Prop := ∀ x o, H x = some o → x ≠ b → H' x = some o
theorem SameB.refl (b : Addr) (H : Hp) : SameB b H H := fun _ _ h _ => h
theorem SameB.trans {b : Addr} {H H1 H2 : Hp} (h : SameB b H H1) (k : SameB b H1 H2) : SameB b H H2 := fun x o e n => k x o (h x o e n) n
theorem SameB.of {b : Addr} {H H' : Hp} (h : Same H H') : SameB b H H' := fun x o e _ => h x o e
theorem SameB.upd {b p : Addr} {H H1 : Hp} {o : HO} (s : SameB b H H1) (h : H p = none ∨ p = b) : SameB b H (upd H1 p o) := fun x o' e n => by
  have : x ≠ p := by
    rcases h with h | h
    · exact ne_of_none e h
    · rw [h]; exact n
  rw [upd_ne this]; exact s x o' e n
theorem SameB.free {b : Addr} {H H1 : Hp} (h : SameB b H H1) {o : HO} (hb : H1 b = some o) {p : Addr} (e : H1 p = none) : H p = none := by
  cases q : H p with
  | none => rfl
  | some o' =>
    have : p ≠ b := fun z => by rw [z, hb] at e; cases e
    rw [h p o' q this] at e
    cases e
def rLenL : List V → Hp → VK → Prop := fun vs H Q => ∃ p ys, vs = [.ref p] ∧ H p = some (.lst ys) ∧ Q (.int ys.length) H
theorem call_lenL {X : Cx} : CallR X (.builtin "len") rLenL := by
  intro pins s σ H xs us Q I r h
  obtain ⟨p, ys, e, h, q⟩ := h
  exact call_len_seq pins s σ H xs us Q I r ⟨p, ys, e, .inl (SqL.of h), q⟩
/-! ### steps of a reading -/
section
variable {K : PySem.W.Frag} {H : Hp} {Q : VK} {p : Addr} {xs : List V} {v : V} {i : Int}
theorem ixL_at (h : H p = some (.lst xs)) (e : atI xs i = some v) (q : Q v H) : rIxL K (.ref p) (.int i) H Q := ⟨p, xs, i, v, rfl, rfl, SqL.of h, e, q⟩
theorem ixT_at (h : H p = some (.tup xs)) (e : atI xs i = some v) (q : Q v H) : rIxT K (.ref p) (.int i) H Q := ⟨p, xs, i, v, rfl, rfl, SqT.of h, e, q⟩
theorem at0 {α : Type} {x : α} {l : List α} : atI (x :: l) 0 = some x := atI_nat (j := 0) rfl
theorem at1 {α : Type} {x y : α} {l : List α} : atI (x :: y :: l) 1 = some y := atI_nat (j := 1) rfl
theorem setL_at {j : Nat} {R : Hp → Prop} (h : H p = some (.lst xs)) (e : ixN xs.length i = some j) (q : R (upd H p (.lst (xs.set j v)))) : rSetL (.ref p) (.int i) v H R := ⟨p, xs, i, j, rfl, rfl, h, e, q⟩
theorem eq_at {x y : V} (h : scal x y = true) (q : Q (.bl (decide (x = y))) H) : rEq x y H Q := ⟨h, q⟩
theorem ne_at {x y : V} (h : scal x y = true) (q : Q (.bl (!decide (x = y))) H) : rNe x y H Q := ⟨h, q⟩
theorem len_at (h : H p = some (.lst xs)) (q : Q (.int xs.length) H) : rLenL [.ref p] H Q := ⟨p, xs, rfl, h, q⟩
theorem gTup2_at {σ : St} {x y : V} {i j : Nat} {R : St → Hp → Prop} (h : H p = some (.tup [x, y])) (q : R ((σ.set i (some x)).set j (some y)) H) : gTup K 2 (gCons (gName i) (gCons (gName j) gNil)) (.ref p) σ H R :=
  ⟨p, _, rfl, SqT.of h, rfl, _, _, rfl, _, _, rfl, rfl, q⟩
theorem gTup3_at {σ : St} {x y z : V} {i j k : Nat} {R : St → Hp → Prop} (h : H p = some (.tup [x, y, z])) (q : R (((σ.set i (some x)).set j (some y)).set k (some z)) H) : gTup K 3 (gCons (gName i) (gCons (gName j) (gCons (gName k) gNil))) (.ref p) σ H R :=
  ⟨p, _, rfl, SqT.of h, rfl, _, _, rfl, _, _, rfl, _, _, rfl, rfl, q⟩
theorem dec_eq_int {i j : Int} : (V.int i = V.int j) = (i = j) := propext ⟨fun h => by cases h; rfl, fun h => by rw [h]⟩
theorem dec_eq_str {i j : Str} : (V.str i = V.str j) = (i = j) := propext ⟨fun h => by cases h; rfl, fun h => by rw [h]⟩
end
section
variable {X : Cx} {i j k : Nat} {x y z : Str} {px py pz pos : Pos} {kk : Nat}
theorem pg_t2 (hN : X.N.Nodup) (hc : X.calm = true) (hi : X.N[i]? = some x) (hj : X.N[j]? = some y) (lx : Loc X.env.scope x) (ly : Loc X.env.scope y)
    (fx : X.fn x = true ∨ X.env.scope.names.lookup x = some .local) (fy : X.fn y = true ∨ X.env.scope.names.lookup y = some .local) :
    PG X (.Tuple [.Name x px, .Name y py] kk pos) (gTup X.K 2 (gCons (gName i) (gCons (gName j) gNil))) := pg_tup hc (pgs_cons (pg_name hN hi lx fx) (pgs_cons (pg_name hN hj ly fy) pgs_nil))
end
/-! ### the same, with the written part named -/
section
variable {X : Cx} {K : PySem.W.Frag}
theorem ix_listK (h : X.K = K) : IxR X (rIxL K) := h ▸ ix_list
theorem ix_tupK (h : X.K = K) : IxR X (rIxT K) := h ▸ ix_tup
theorem pi_listK {tg l : Expr} {tl : TE} (h : X.K = K) (hl : PE X l tl) : PI X tg l (iList K tl) := h ▸ pi_list hl
theorem sl_listK (h : X.K = K) : SlR X (rSlL K) := h ▸ sl_list
theorem op_inK (h : X.K = K) : OpR X (compareOp .In) (rIn K false) := h ▸ op_in_seq
theorem call_isiK (h : X.K = K) : CallR X (.builtin "isinstance") (rIsi K) := h ▸ call_isi
def tTru (K : PySem.W.Frag) (ta : TE) : TT := fun σ H Q => ta σ H fun x H' => ∃ k, TruV K x H' k ∧ Q k H'
theorem pg_t2K {i j : Nat} {x y : Str} {px py pos : Pos} {kk : Nat} (h : X.K = K) (hN : X.N.Nodup) (hc : X.calm = true) (hi : X.N[i]? = some x) (hj : X.N[j]? = some y) (lx : Loc X.env.scope x) (ly : Loc X.env.scope y)
    (fx : X.fn x = true ∨ X.env.scope.names.lookup x = some .local) (fy : X.fn y = true ∨ X.env.scope.names.lookup y = some .local) :
    PG X (.Tuple [.Name x px, .Name y py] kk pos) (gTup K 2 (gCons (gName i) (gCons (gName j) gNil))) := h ▸ pg_t2 hN hc hi hj lx ly fx fy
/-- o.m(e, ..) of a list -/
def LmStep (x : V) (H : Hp) (k : Prop) : Prop := ∃ p xs, x = .ref p ∧ H p = some (.lst xs) ∧ k
theorem lm_at {p : Addr} {xs : List V} {H : Hp} {k : Prop} (h : H p = some (.lst xs)) (q : k) : LmStep (.ref p) H k := ⟨p, xs, rfl, h, q⟩
theorem app_at {p : Addr} {xs : List V} {y : V} {H : Hp} {Q : VK} (h : H p = some (.lst xs)) (hz : xs.length < sizeLine) (q : Q .non (upd H p (.lst (xs ++ [y])))) : rAppend (.ref p) [y] H Q := ⟨p, xs, y, rfl, rfl, h, hz, q⟩
def tLM (r : V → List V → Hp → VK → Prop) (to : TE) (t : TA) : TE := fun σ H Q => to σ H fun x H1 => LmStep x H1 (t σ H1 fun vs H2 => r x vs H2 Q)
theorem pe_lm {o e : Expr} {es : List Expr} {to : TE} {t : TA} {name : Str} {apos cpos : Pos} {id : String} {r : V → List V → Hp → VK → Prop} (slot : Slot "list" name id) (hty : typeOf (.builtin id) = pure (.type "method_descriptor")) (hm : MtR X id r) (ho : PE X o to) (ha : PA X (e :: es) t)
    (hbase : attributeBase o name X.env (eval o X.env) = eval o X.env := by rfl)
    (hfew : ((backTo cpos (starEach (e :: es) X.env)).all (fun x => !x.1) && (backToKw cpos (keywordEach [] X.env)).all (fun x => x.1.isSome)
      && decide ((e :: es).length + ([] : List Keyword).length + (if ([] : List Keyword).isEmpty then 0 else 1) < 30)) = true := by rfl)
    (hline : (apos.endLine == cpos.line) = true := by rfl) (hs : starEach (e :: es) X.env = (false, eval e X.env) :: starEach es X.env := by rfl) (hplain : (backTo cpos (starEach es X.env)).any (·.1) = false := by rfl) :
    PE X (.Call (.Attribute o name apos) (e :: es) [] cpos) (tLM r to t) := by
  intro pins s σ H Q I h
  refine wpAny_Call_method_late hbase hfew hline rfl (thn (ho pins s σ H _ I h) fun v s1 ⟨x, H1, I1, r1, p, xs, ex, hp, q1⟩ => ?_)
  subst ex
  obtain ⟨h1, h2⟩ := tyV_is (T := "list") I1 r1 (.inl ⟨rfl, xs, SqL.of hp⟩)
  refine ⟨"list", id, PySem.F.plainAttrs_list, slot, hty, h1, h2, ?_⟩
  have hA := ha cpos pins s1 σ H1 _ I1 q1
  rw [hs] at hA ⊢
  refine Calls.callWith_builtin (by show (false || (backTo cpos (starEach es X.env)).any (·.1)) = false; rw [hplain] <;> rfl) (Calls.evalArgs_plain ?_)
  exact thn hA fun us s2 ⟨vs, H2, I2, r2, q2⟩ => hm pins s2 σ H2 (.ref p) vs v us Q I2 r1 r2 q2
end
/-! ### loops and comprehensions, step by step -/
def ForW (J : It) (g : TG) (tb : TS) (D : Ends) (σ : St) (H1 : Hp) : Prop := ∃ W : Nat → Nat → St → Hp → Prop, (∃ m, W 0 m σ H1) ∧ ∀ i m σ H, W i m σ H →
  (J.stop i H ∧ D.nx σ H) ∨ (J.go i H ∧ ∃ N : St → Hp → Prop, (∀ σ' H', N σ' H' → ∃ m', m' < m ∧ W (i + 1) m' σ' H') ∧ ∀ x H', J.yld i H x H' → g x σ H' fun σ2 H2 => tb { D with nx := N, ct := N, bk := D.nx } σ2 H2)
theorem rd_for {wi : TI} {g : TG} {tb : TS} {D : Ends} {σ : St} {H : Hp} : tFor wi g tb D σ H = wi σ H fun J H1 => ForW J g tb D σ H1 := rfl
def ItStep (K : PySem.W.Frag) (x : V) (H : Hp) (R : It → Hp → Prop) : Prop := ∃ a, x = .ref a ∧ (∃ xs, SqL K H a xs) ∧ R (Itl K a) H
theorem rd_iList {K : PySem.W.Frag} {tl : TE} {σ : St} {H : Hp} {R : It → Hp → Prop} : iList K tl σ H R = tl σ H fun x H1 => ItStep K x H1 R := rfl
theorem it_at {K : PySem.W.Frag} {p : Addr} {xs : List V} {H : Hp} {R : It → Hp → Prop} (h : H p = some (.lst xs)) (q : R (Itl K p) H) : ItStep K (.ref p) H R := ⟨p, rfl, ⟨xs, SqL.of h⟩, q⟩
def RgStep (vs : List V) (H : Hp) (R : It → Hp → Prop) : Prop := ∃ j : Int, vs = [.int j] ∧ -(2 ^ 62) ≤ j ∧ j < 2 ^ 62 ∧ R (Itr 0 j.toNat) H
theorem rd_iRng1 {ta : TA} {σ : St} {H : Hp} {R : It → Hp → Prop} : iRng1 ta σ H R = ta σ H fun vs H1 => RgStep vs H1 R := rfl
theorem rg_at {j : Int} {H : Hp} {R : It → Hp → Prop} (h1 : -(2 ^ 62) ≤ j) (h2 : j < 2 ^ 62) (q : R (Itr 0 j.toNat) H) : RgStep [.int j] H R := ⟨j, rfl, h1, h2, q⟩
theorem rd_pi {k : Int} {R : Int → Prop} : (∃ i, V.int k = .int i ∧ R i) = R k := propext ⟨fun ⟨_, e, h⟩ => by cases e; exact h, fun h => ⟨k, rfl, h⟩⟩
theorem isi_at {K : PySem.W.Frag} {H : Hp} {Q : VK} {x : V} {n t : String} {b : Bool} (ty : TyOf K H x (.type t)) (e : PySem.W.kitOne K (.type t) (.type n) = some b) (q : Q (.bl b) H) : rIsi K [x, .ty n] H Q := ⟨x, n, t, b, rfl, ty, e, q⟩
end L2

namespace L2
open PySem PySem.Spec PyProof.Rows
/-- == of two tuples -/
def rEqT (K : PySem.W.Frag) : R2 := fun x y H Q => ∃ a b xs ys e, x = .ref a ∧ y = .ref b ∧ SqT K H a xs ∧ SqT K H b ys ∧ (∀ (j : Nat) x y, xs[j]? = some x → ys[j]? = some y → DE K H 20 x y (e j)) ∧ Q (.bl ((List.range (min xs.length ys.length)).all e && xs.length == ys.length)) H
theorem op_eqTK {X : Cx} {K : PySem.W.Frag} (hK : X.K = K) (hu : X.A.units + 64 < cLine) : OpR X (compareOp .Eq) (rEqT K) := by
  subst hK
  intro pins s σ H x y v u Q I rx ry h
  obtain ⟨a, b, xs, ys, e, rfl, rfl, ha, hb, he, q⟩ := h
  obtain rfl : v = Value.ref a := rx
  obtain rfl : u = Value.ref b := ry
  obtain ⟨its, r1, p1, _⟩ := I.tuple ha
  obtain ⟨its2, r2, p2, _⟩ := I.tuple hb
  refine SeqAt.eq_tupleAt (A := X.A) (e := e) p1 p2 (by omega) (fun j h1 h2 => ?_) ⟨.bl _, H, I, rfl, ?_⟩
  · have l1 : j < xs.length := by rw [r1.length]; simpa using h1
    have l2 : j < ys.length := by rw [r2.length]; simpa using h2
    obtain ⟨u1, q1, s1⟩ := r1.get (List.getElem?_eq_getElem l1)
    obtain ⟨u2, q2, s2⟩ := r2.get (List.getElem?_eq_getElem l2)
    have e1 : its.toArray[j] = u1 := by
      obtain ⟨_, z⟩ := List.getElem?_eq_some_iff.mp q1
      simpa using z
    have e2 : its2.toArray[j] = u2 := by
      obtain ⟨_, z⟩ := List.getElem?_eq_some_iff.mp q2
      simpa using z
    rw [e1, e2]
    exact (he j _ _ (List.getElem?_eq_getElem l1) (List.getElem?_eq_getElem l2)).eqAt I (by rw [in1_units]; omega) s1 s2
  · rw [List.size_toArray, List.size_toArray, ← r1.length, ← r2.length]
    exact q
/-- == of an int or a text with a tuple, either way round -/
def flatIS : V → Bool
  | .int _ => true
  | .str _ => true
  | _ => false
def rEqFT (K : PySem.W.Frag) : R2 := fun x y H Q => ∃ a xs, flatIS x = true ∧ y = .ref a ∧ SqT K H a xs ∧ Q (.bl false) H
def rEqTF (K : PySem.W.Frag) : R2 := fun x y H Q => ∃ a xs, flatIS y = true ∧ x = .ref a ∧ SqT K H a xs ∧ Q (.bl false) H
theorem op_eqFTK {X : Cx} {K : PySem.W.Frag} (hK : X.K = K) (hu : X.A.units + 64 < cLine) : OpR X (compareOp .Eq) (rEqFT K) := by
  subst hK
  intro pins s σ H x y v u Q I rx ry h
  obtain ⟨a, xs, hf, rfl, ha, q⟩ := h
  obtain rfl : u = Value.ref a := ry
  obtain ⟨its, r1, p1, _⟩ := I.tuple ha
  cases x with
  | int i =>
    obtain ⟨t, rfl⟩ := rx
    exact SeqAt.RcAt.int_tuple i t p1 (by omega) _ _ _ _ ⟨.bl false, H, I, rfl, q⟩
  | str i =>
    obtain ⟨t, rfl⟩ := rx
    exact SeqAt.RcAt.str_tuple i t p1 (by omega) _ _ _ _ ⟨.bl false, H, I, rfl, q⟩
  | _ => exact absurd (show false = true from hf) Bool.false_ne_true
theorem op_eqTFK {X : Cx} {K : PySem.W.Frag} (hK : X.K = K) (hu : X.A.units + 64 < cLine) : OpR X (compareOp .Eq) (rEqTF K) := by
  subst hK
  intro pins s σ H x y v u Q I rx ry h
  obtain ⟨a, xs, hf, rfl, ha, q⟩ := h
  obtain rfl : v = Value.ref a := rx
  obtain ⟨its, r1, p1, _⟩ := I.tuple ha
  cases y with
  | int i =>
    obtain ⟨t, rfl⟩ := ry
    exact SeqAt.RcAt.tuple_int i t p1 (by omega) _ _ _ _ ⟨.bl false, H, I, rfl, q⟩
  | str i =>
    obtain ⟨t, rfl⟩ := ry
    exact SeqAt.RcAt.tuple_str i t p1 (by omega) _ _ _ _ ⟨.bl false, H, I, rfl, q⟩
  | _ => exact absurd (show false = true from hf) Bool.false_ne_true
/-- == of worths as a plain store keeps them -/
theorem op_eqW {X : Cx} {K : PySem.W.Frag} (hK : X.K = K) (hu : X.A.units + 64 < cLine) : OpR X (compareOp .Eq) (fun x y H Q => rEq x y H Q ∨ rEqT K x y H Q ∨ rEqFT K x y H Q ∨ rEqTF K x y H Q) :=
  op_eq.or ((op_eqTK hK hu).or ((op_eqFTK hK hu).or (op_eqTFK hK hu)))
/-- isinstance(x, (A, B, ..)): the classes written as a tuple that was just made -/
def rIsiT (K : PySem.W.Frag) : List V → Hp → VK → Prop := fun xs H Q => ∃ (x : V) (p : Addr) (ns : List String) (t : String) (b : Bool), xs = [x, .ref p] ∧ H p = some (.tup (ns.map V.ty)) ∧ TyOf K H x (.type t) ∧ PySem.W.kitAny K (.type t) (ns.map Value.type) = some b ∧ Q (.bl b) H
theorem vals_ty : ∀ {ns : List String} {us : List Value}, Vals (ns.map V.ty) us → us = ns.map Value.type
  | [], _, h => by cases h; rfl
  | n :: ns, _, h => by
    cases h with
    | cons r t =>
      have := vals_ty t
      subst this
      obtain rfl := (show _ = Value.type n from r)
      rfl
theorem call_isiT {X : Cx} {K : PySem.W.Frag} (hK : X.K = K) : CallR X (.builtin "isinstance") (rIsiT K) := by
  subst hK
  intro pins s σ H xs us Q I r h
  obtain ⟨x, p, ns, t, b, rfl, hp, ty, e, q⟩ := h
  obtain ⟨u, v, rfl, ru, rv⟩ := vals2 r
  obtain rfl : v = Value.ref p := rv
  obtain ⟨_, its, r1, o, ho, hc, n, hd⟩ := (show ObjOk X.prog X.w H s.heap p (.tup (ns.map V.ty)) from I.hok p _ hp)
  obtain rfl := vals_ty r1
  obtain ⟨c, dd, dt, sl⟩ := o
  simp only at hc hd
  subst hc hd
  have fin : ∀ tk, EP X pins σ Q (.bool b) { s with toks := tk } := fun tk => ⟨.bl b, H, I.tok tk, rfl, q⟩
  cases ty with
  | non => cases (show u = Value.none from ru); exact PySem.W.kia_tup PySem.W.kitx_none I.kIn True.intro ho e (fun z => nomatch z) fin
  | bl y => cases (show u = Value.bool y from ru); exact PySem.W.kia_tup PySem.W.kitx_bool I.kIn True.intro ho e (fun z => nomatch z) fin
  | int i => obtain ⟨t, q'⟩ := (show ∃ t, u = Value.int i t from ru); cases q'; exact PySem.W.kia_tup PySem.W.kitx_int I.kIn True.intro ho e (fun z => nomatch z) fin
  | str y => obtain ⟨t, q'⟩ := (show ∃ t, u = Value.str y t from ru); cases q'; exact PySem.W.kia_tup PySem.W.kitx_str I.kIn True.intro ho e (fun z => nomatch z) fin
  | flt y => obtain ⟨t, q'⟩ := (show ∃ t, u = Value.float y t from ru); cases q'; exact PySem.W.kia_tup PySem.W.kitx_float I.kIn True.intro ho e (fun z => nomatch z) fin
  | @lst a xs ea =>
    cases (show u = Value.ref a from ru)
    obtain ⟨_, _, n, _, h1⟩ := (show ObjOk X.prog X.w H s.heap a (.lst xs) from I.hok a _ ea)
    exact PySem.W.kia_tup PySem.W.kitx_list I.kIn ⟨_, h1, rfl⟩ ho e (fun z => nomatch z) fin
  | @frz a ob xs ea =>
    cases (show u = Value.ref a from ru)
    obtain ⟨_, _, _, n, _, h1⟩ := (show ObjOk X.prog X.w H s.heap a (.frz ob (.lst xs)) from I.hok a _ ea)
    exact PySem.W.kia_tup PySem.W.kitx_list I.kIn ⟨_, h1, rfl⟩ ho e (fun z => nomatch z) fin
  | @tup a xs ea =>
    cases (show u = Value.ref a from ru)
    obtain ⟨_, _, _, o2, h1, h2, _⟩ := (show ObjOk X.prog X.w H s.heap a (.tup xs) from I.hok a _ ea)
    exact PySem.W.kia_tup PySem.W.kitx_tuple I.kIn ⟨o2, h1, h2⟩ ho e (fun z => nomatch z) fin
  | @dK a kvs ea =>
    cases (show u = Value.ref a from ru)
    obtain ⟨_, _, vs, _, p2⟩ := (show ObjOk X.prog X.w H s.heap a (.dK kvs) from I.hok a _ ea)
    obtain ⟨o2, es, ep, h1, h2, _⟩ := p2
    exact PySem.W.kia_tup PySem.W.kitx_dict I.kIn ⟨o2, h1, h2.1⟩ ho e (fun z => nomatch z) fin
  | @dT a kvs ea =>
    cases (show u = Value.ref a from ru)
    obtain ⟨_, _, xs, _, o2, es, ep, h1, h2, _⟩ := (show ObjOk X.prog X.w H s.heap a (.dT kvs) from I.hok a _ ea)
    exact PySem.W.kia_tup PySem.W.kitx_dict I.kIn ⟨o2, h1, h2.1⟩ ho e (fun z => nomatch z) fin
/-! ### a method, as callers use it -/
structure MDef (P : Program) (w : World) (K : PySem.W.Frag) (mg : Str → Option Value) (base : Heap) (C : Addr) (m : Str) (k : Nat) (ps : List Str) (sp : Sp) : Prop where
  ex : ∃ (f : Addr) (fd : FuncData), Meth K C m f ∧ Binds K fd ps [] ∧ FnOk P w K mg base CX0 k f fd ps sp
theorem pe_mdef {X : Cx} {pl : Sem Bool} {C : Addr} {m : Str} {k : Nat} {ps : List Str} {sp : Sp} {o e : Expr} {es : List Expr} {ta : TE} {t : TA} {apos pos : Pos} (D : MDef X.prog X.w X.K X.mg X.base C m k ps sp) (c : Cls X.K C) (he : PE X o ta) (hr : Room k X.A) (ha : PA X (e :: es) t)
    (hst : starEach (e :: es) X.env = (false, eval e X.env) :: starEach es X.env := by rfl) (hpl : (backTo pos (starEach es X.env)).any (·.1) = false := by rfl)
    (ht : eval (.Call (.Attribute o m apos) (e :: es) [] pos) X.env = (do
      let ov ← eval o X.env
      standAt apos.atName
      let (f, first) ← holding [ov] (getMethod ov m pl)
      callWith pos f first (backTo pos (starEach (e :: es) X.env)) (backToKw pos (keywordEach [] X.env))) := by rfl) : PE X (.Call (.Attribute o m apos) (e :: es) [] pos) (tMeth C m sp [] E0 ta t) := by
  obtain ⟨f, fd, h1, h2, h3⟩ := D.ex
  exact pe_meth he c h1 h3 hr h2 .nil pass0 ha hst hpl ht
end L2

namespace PySem.SeqAt
open AutoSeq1 (wpAny_loadPart')
open MeetsSeq MeetsSeq2 MeetsSeq3 SeqRoads2
end PySem.SeqAt
namespace L2
open PySem PySem.Spec PyProof.Rows
/-- index of a text in a module's tuple of three -/
structure Tup3 (K : PySem.W.Frag) (mg : Str → Option Value) (nm : Str) (p : Addr) (x y z : Str) : Prop where
  mg : mg nm = some (.ref p)
  lk : ∃ (a b c : Tok) (n : Nat) (sl : Array (Option Value)), K.lookup p = some ⟨.type "tuple", none, .seq #[.str x a, .str y b, .str z c] n, sl⟩
theorem Tup3.ty {K : PySem.W.Frag} {mg : Str → Option Value} {nm : Str} {p : Addr} {x y z : Str} (T : Tup3 K mg nm p x y z) (H : Hp) : tyV K "tuple" (.ref p) H := by
  obtain ⟨a, b, c, n, sl, e⟩ := T.lk
  exact .inr (.inl ⟨rfl, _, e, rfl, rfl⟩)
end L2

namespace L2
open PySem PySem.Spec PyProof.Rows
/-! ### the library's ledger rules (Fr, News), from any invariant -/
def h00 : Heap := {}
def newsOf (h : Heap) (L : Addr) : List (Addr × Obj) := (List.range h.objs.size).filterMap fun a => if a = L then none else (h.get? a).map fun o => (a, o)
theorem h00_none (a : Addr) : h00.get? a = none := Heap.get?_none_of_le (Nat.zero_le _)
theorem news_mem {h : Heap} {L b : Addr} {o : Obj} (e : h.get? b = some o) (n : b ≠ L) : (b, o) ∈ newsOf h L := by
  refine List.mem_filterMap.mpr ⟨b, List.mem_range.mpr (Heap.lt_size e), ?_⟩
  rw [if_neg n, e]
  rfl
theorem news_of {h : Heap} {L : Addr} : News h00 L h (newsOf h L) := fun p hp => by
  obtain ⟨a, _, e⟩ := List.mem_filterMap.mp hp
  by_cases n : a = L
  · rw [if_pos n] at e; cases e
  · rw [if_neg n] at e
    cases q : h.get? a with
    | none => rw [q] at e; cases e
    | some o => rw [q] at e; cases e; exact ⟨q, n, h00_none _⟩
theorem Inv.ledger {X : Cx} {pins : List (Addr × Obj)} {σ : St} {H : Hp} {s : Shared} (I : Inv X pins σ H s) : ∃ m, Fr h00 X.env.locals s.heap m ∧ News h00 X.env.locals s.heap (newsOf s.heap X.env.locals) ∧
    ∀ (h' : Heap) (tk : Nat), Fr h00 X.env.locals h' m → News h00 X.env.locals h' (newsOf s.heap X.env.locals) → Inv X pins σ H { s with heap := h', toks := tk } := by
  obtain ⟨m, hn, _⟩ := I.loc
  refine ⟨m, ⟨hn, fun b o e => (by rw [h00_none] at e; cases e), Nat.zero_le _⟩, news_of, fun h' tk F W => ?_⟩
  have kp : ∀ b o, b ≠ X.env.locals → s.heap.get? b = some o → h'.get? b = some o := fun b o n e => (W _ (news_mem e n)).1
  refine I.step (ch := []) (H' := H) (fun b hb => nomatch hb) (fun b o n _ _ e _ => kp b o n e) (fun b o n _ _ e _ => ⟨o.slots, kp b o n e⟩) (fun b o _ _ z => z) (fun b o _ e => ?_) (fun _ _ z => z) (fun _ _ _ z => z) (fun b ps z => ⟨#[], by simpa using z⟩) (fun m' hm' => ?_) (fun a o e => ?_) I.bare
  · by_cases n : b = X.env.locals
    · subst n
      obtain ⟨o', _, _, e', _⟩ := F.ns
      exact ⟨o', e'⟩
    · exact ⟨o, kp b o n e⟩
  · have : m' = m := funext fun x => by
      obtain ⟨o, es, ep, e1, e2, e3, e4⟩ := hm'
      obtain ⟨o', es', ep', f1, f2, f3, f4⟩ := hn
      rw [e1] at f1; cases f1
      rw [e2] at f2; cases f2
      rw [← e4, ← f4]
    rw [this]
    exact F.ns
  · refine (I.hok a o e).stay (fun b u hb q => kp b u ?_ q) (fun _ q => q) fun _ _ q => q
    intro z
    subst z
    have := I.free
    rcases hb with hb | hb
    · subst hb; rw [e] at this; cases this
    · rw [hb] at this; cases this
/-! ### all(bs), a list of truths -/
theorem bools_of : ∀ {bs : List Bool} {us : List Value}, Vals (bs.map V.bl) us → LSm.BoolsAre us bs
  | [], _, h => by cases h; exact .nil
  | b :: bs, _, h => by
    cases h with
    | cons r t =>
      obtain rfl := (show _ = Value.bool b from r)
      exact .cons b (bools_of t)
def rAll : List V → Hp → VK → Prop := fun xs H Q => ∃ (l : Addr) (bs : List Bool), xs = [.ref l] ∧ H l = some (.lst (bs.map V.bl)) ∧ Q (.bl (bs.all id)) H
theorem call_all {X : Cx} (hc : X.calm = true) : CallR X (.builtin "all") rAll := by
  intro pins s σ H xs us Q I r h
  obtain ⟨l, bs, rfl, hl, q⟩ := h
  obtain ⟨u, rfl, rx⟩ := vals1 r
  cases rx
  obtain ⟨its, r', pl, hz⟩ := I.list (SqL.of hl)
  obtain ⟨m, F, W, fin⟩ := I.ledger
  exact LSm.all_bools F W (I.ok.hd hc) pl.isList (bools_of r') fun h' tk F' W' => ⟨.bl _, H, fin h' tk F' W', rfl, q⟩
/-! ### a list or a tuple -/
def rIxA (K : PySem.W.Frag) : R2 := fun x y H Q => rIxL K x y H Q ∨ rIxT K x y H Q
theorem ix_anyK {X : Cx} {K : PySem.W.Frag} (h : X.K = K) : IxR X (rIxA K) := (ix_listK h).or (ix_tupK h)
def rLenA (K : PySem.W.Frag) : List V → Hp → VK → Prop := fun xs H Q => ∃ p ys, xs = [.ref p] ∧ (SqL K H p ys ∨ SqT K H p ys) ∧ Q (.int ys.length) H
theorem call_lenAK {X : Cx} {K : PySem.W.Frag} (h : X.K = K) : CallR X (.builtin "len") (rLenA K) := h ▸ call_len_seq
/-- a module's whole number -/
structure GInt (mg : Str → Option Value) (nm : Str) (n : Int) : Prop where
  ex : ∃ t, mg nm = some (.int n t)
theorem pe_gint {X : Cx} {x : Str} {n : Int} {pos : Pos} (G : GInt X.mg x n) (hg : Gl X x) (hd : (x == ("__debug__" : Str)) = false := by decide) : PE X (.Name x pos) (tC (.int n)) := by
  obtain ⟨t, e⟩ := G.ex
  exact pe_glob hg e ⟨t, rfl⟩ hd
end L2

namespace L2
open PySem PySem.Spec PyProof.Rows
/-! ### numbers of some thousand figures -/
/-- below 2 to the n -/
def Bt (n : Nat) (i : Int) : Prop := i.natAbs < 2 ^ n
theorem Bt.bits {n : Nat} {i : Int} (h : Bt n i) : Builtin.Int.intBits i ≤ n := intBits_le_iff.mpr h
theorem Bt.of_bits {n : Nat} {i : Int} (h : Builtin.Int.intBits i ≤ n) : Bt n i := intBits_le_iff.mp h
theorem Bt.mono {n m : Nat} {i : Int} (h : Bt n i) (hm : n ≤ m) : Bt m i := Nat.lt_of_lt_of_le h (Nat.pow_le_pow_right (by decide) hm)
theorem Bt.neg {n : Nat} {i : Int} (h : Bt n i) : Bt n (-i) := by unfold Bt; rw [Int.natAbs_neg]; exact h
theorem Bt.add {n m : Nat} {i j : Int} (h : Bt n i) (h' : Bt m j) : Bt (max n m + 1) (i + j) := by
  have a := h.mono (Nat.le_max_left n m)
  have b := h'.mono (Nat.le_max_right n m)
  unfold Bt at *
  have := Int.natAbs_add_le i j
  rw [Nat.pow_succ]
  omega
theorem Bt.shl {n k : Nat} {i : Int} (h : Bt n i) : Bt (n + k) (i * 2 ^ k) := by
  unfold Bt at *
  rw [Int.natAbs_mul, Int.natAbs_pow, Nat.pow_add]
  exact Nat.mul_lt_mul_of_pos_right h (Nat.pow_pos (by decide))
theorem Bt.pow (k : Nat) : Bt (1 + k) ((1 : Int) * 2 ^ k) := Bt.shl (n := 1) (by unfold Bt; decide)
theorem Bt.small {n : Nat} {i : Int} (h0 : -(2 ^ 62) < i) (h1 : i < 2 ^ 62) (hn : 62 ≤ n) : Bt n i := by
  refine Bt.mono (n := 62) ?_ hn
  unfold Bt
  omega
theorem Bt.nonneg_le {n : Nat} {i j : Int} (h : Bt n i) (h0 : 0 ≤ j) (h1 : j ≤ i) : Bt n j := by
  unfold Bt at *
  omega
theorem Bt.sign {n : Nat} {i s : Int} (h : Bt n i) (hs : s = 1 ∨ s = -1) : Bt n (s * i) := by
  rcases hs with rfl | rfl
  · rw [Int.one_mul]; exact h
  · rw [Int.neg_mul, Int.one_mul]; exact h.neg
theorem Bt.signR {n : Nat} {i s : Int} (h : Bt n i) (hs : s = 1 ∨ s = -1) : Bt n (i * s) := by rw [Int.mul_comm]; exact h.sign hs
end L2

namespace L2
open PySem PySem.Spec PyProof.Rows
end L2

namespace L2
open PySem PySem.Spec PyProof.Rows
/-! ### for x in reversed(xs) -/
def Itv (K : PySem.W.Frag) (a : Addr) (n : Nat) : It :=
  ⟨fun i H => i < n ∧ ∃ xs, SqL K H a xs ∧ xs.length = n, fun i H x H' => H' = H ∧ ∀ xs, SqL K H a xs → xs[n - 1 - i]? = some x, fun i H => n = i⟩
def RvStep (K : PySem.W.Frag) (vs : List V) (H : Hp) (R : It → Hp → Prop) : Prop := ∃ a xs, vs = [.ref a] ∧ SqL K H a xs ∧ R (Itv K a xs.length) H
def iRev (K : PySem.W.Frag) (ta : TA) : TI := fun σ H R => ta σ H fun vs H1 => RvStep K vs H1 R
theorem rd_iRev {K : PySem.W.Frag} {ta : TA} {σ : St} {H : Hp} {R : It → Hp → Prop} : iRev K ta σ H R = ta σ H fun vs H1 => RvStep K vs H1 R := rfl
def Ite (K : PySem.W.Frag) (a : Addr) : It :=
  ⟨fun i H => ∃ xs x, SqL K H a xs ∧ xs[i]? = some x, fun i H x H' => ∃ (p : Addr) (v : V), x = .ref p ∧ H p = none ∧ H' = upd H p (.tup [.int i, v]) ∧ ∀ xs, SqL K H a xs → xs[i]? = some v, fun i H => ∃ xs, SqL K H a xs ∧ xs.length ≤ i⟩
def EnStep (K : PySem.W.Frag) (vs : List V) (H : Hp) (R : It → Hp → Prop) : Prop := ∃ a xs, vs = [.ref a] ∧ SqL K H a xs ∧ R (Ite K a) H
def iEnum (K : PySem.W.Frag) (ta : TA) : TI := fun σ H R => ta σ H fun vs H1 => EnStep K vs H1 R
theorem rd_iEnum {K : PySem.W.Frag} {ta : TA} {σ : St} {H : Hp} {R : It → Hp → Prop} : iEnum K ta σ H R = ta σ H fun vs H1 => EnStep K vs H1 R := rfl
end L2

namespace L2
open PySem PySem.Spec PyProof.Rows
/-! ### xs[::-1]: of its items, no more than it has -/
def ixRev (n : Nat) : List Nat := sliceRange (sliceBounds none none (some (-1)) n).1 (sliceBounds none none (some (-1)) n).2.1 (sliceBounds none none (some (-1)) n).2.2
theorem ixRev_len (n : Nat) : (ixRev n).length ≤ n := by
  unfold ixRev sliceRange sliceBounds
  simp only [Option.getD_some, List.length_map, List.length_range]
  split
  · omega
  · split <;> simp <;> omega
def pickV (xs : List V) : List V := (ixRev xs.length).filterMap fun i => xs[i]?
theorem pickV_len (xs : List V) : (pickV xs).length ≤ xs.length := Nat.le_trans (List.length_filterMap_le _ _) (ixRev_len _)
theorem pick_vals {xs : List V} {us : List Value} (h : Vals xs us) : ∀ I : List Nat, Vals (I.filterMap fun i => xs[i]?) (I.filterMap fun i => us[i]?)
  | [] => .nil
  | i :: I => by
    cases e : xs[i]? with
    | none =>
      have e2 : us[i]? = none := by
        rw [List.getElem?_eq_none_iff] at e ⊢
        rw [← h.length]; exact e
      rw [List.filterMap_cons, List.filterMap_cons, e, e2]
      exact pick_vals h I
    | some x =>
      obtain ⟨u, e2, r⟩ := h.get e
      rw [List.filterMap_cons, List.filterMap_cons, e, e2]
      exact .cons r (pick_vals h I)
def RevStep (K : PySem.W.Frag) (x : V) (H : Hp) (Q : VK) : Prop := ∃ a xs, x = .ref a ∧ SqL K H a xs ∧ ∀ r, H r = none → Q (.ref r) (upd H r (.lst (pickV xs)))
def tRev (K : PySem.W.Frag) (te : TE) : TE := fun σ H Q => te σ H fun x H1 => RevStep K x H1 Q
theorem pe_rev {X : Cx} {K : PySem.W.Frag} {e : Expr} {te : TE} {j : Nat} {p1 p2 p3 pos : Pos} (hK : X.K = K) (he : PE X e te) : PE X (.Subscript e (.Slice none none (some (.UnaryOp .USub (.Constant (.int 1) j p1) p3)) p2) pos) (tRev K te) := by
  subst hK
  intro pins s σ H Q I h
  refine Subscript_ (thn (he pins s σ H _ I h) fun v s1 ⟨x, H1, I1, r1, q1⟩ => ?_)
  refine wpAny_Slice ?_
  rw [evalPart_none]
  refine wpAny_pure ?_
  refine wpAny_pure ?_
  refine thn ((po_some (pe_un un_neg pe_int)) pins s1 σ H1 (fun o H2 => o = some (-1) ∧ H2 = H1) I1 ?_) fun u s2 ⟨o, H2, I2, pu, q2⟩ => ?_
  · exact ⟨_, rfl, _, rfl, rfl, rfl⟩
  obtain ⟨rfl, rfl⟩ := q2
  obtain ⟨a, xs, rfl, hx, q⟩ := q1
  cases r1
  have I4 : Inv X pins σ H2 { s2 with heap := s2.heap.push { cls := .type "slice", data := .fields #[.none, .none, u] } } := I2.kept (t' := s2.toks) fun b ob q => Heap.get?_push_of_some _ q
  obtain ⟨its, r, ht, hz⟩ := I4.list hx
  show wpAny (model X.prog X.w) X.A (subscriptTail e (.Slice none none (some (.UnaryOp .USub (.Constant (.int 1) j p1) p3)) p2) (.ref a) (.ref s2.heap.objs.size)) (EP X pins σ Q) X.xe { s2 with heap := s2.heap.push { cls := .type "slice", data := .fields #[.none, .none, u] } }
  refine tail_any (ops := [.ref a, .ref s2.heap.objs.size]) ht.isList.typeIs slot_list_getitem.lookup (wpAny_getItem_list_slice (st := some (-1)) ht.isList (Heap.IsSliceOf.new ..) .none .none pu (by decide) ?_ (by rw [List.size_toArray, ← r.length]; exact hz)) (by with_unfolding_all rfl)
  have hpk : slicePick its.toArray none none (some (-1)) = ((ixRev xs.length).filterMap fun i => its[i]?).toArray := by
    unfold slicePick ixRev
    rw [List.size_toArray, ← r.length]
    simp
  rw [hpk]
  exact ⟨.ref _, _, I4.laid (t' := s2.toks) (o := .lst (pickV xs)) (fun b ob q => Heap.get?_push_of_some _ q) (Nat.le_refl _) ⟨Nat.le_trans (pickV_len xs) hz, _, 0, pick_vals r _, Heap.get?_push_size _ rfl⟩, rfl, q _ (I4.hok.fresh (Nat.le_refl _))⟩
end L2

namespace Mw
open PySem
end Mw

namespace L2
open PySem PySem.Spec PyProof.Rows
def noStar : Expr → Bool
  | .Starred _ _ => false
  | _ => true
theorem star_cons {e : Expr} {es : List Expr} {env : Env} (h : noStar e = true) : starEach (e :: es) env = (false, eval e env) :: starEach es env := by
  cases e <;> first | rfl | cases h
theorem pa_c {X : Cx} {e : Expr} {es : List Expr} {te : TE} {t : TA} (ha : PE X e te) (hr : PA X es t) (h : noStar e = true := by rfl) : PA X (e :: es) (tCons te t) := pa_cons ha hr (star_cons h)
end L2

namespace L2
open PySem PySem.Spec PyProof.Rows
/-! ### the rules, closed: nothing looks into them -/
structure QE (X : Cx) (e : Expr) (t : TE) : Prop where
  h : PE X e t
structure QT (X : Cx) (e : Expr) (t : TT) : Prop where
  h : PT X e t
structure QW (X : Cx) (e : Expr) (t : TT) : Prop where
  h : PW X e t
structure QA (X : Cx) (e : List Expr) (t : TA) : Prop where
  h : PA X e t
structure QS (X : Cx) (e : Stmt) (t : TS) : Prop where
  h : PS X e t
structure QSs (X : Cx) (e : List Stmt) (t : TS) : Prop where
  h : PSs X e t
structure QG (X : Cx) (e : Expr) (t : TG) : Prop where
  h : PG X e t
structure QTs (X : Cx) (e : List Expr) (t : TT) : Prop where
  h : PTs X e t
structure QO (X : Cx) (e : Option Expr) (t : TO) : Prop where
  h : PO X e t
structure QI (X : Cx) (tg e : Expr) (t : TI) : Prop where
  h : PI X tg e t
section
variable {X : Cx} {st : Stmt} {rest : List Stmt} {t u : TS} {e : Expr} {te : TE} {pos : Pos}
theorem qss_nil  : QSs X [] tNext := ⟨pss_nil ⟩
end
section
variable {X : Cx} {st : Stmt} {rest : List Stmt} {t u : TS} {e : Expr} {te : TE} {pos : Pos}
theorem qss_one (h1 : QS X st t) : QSs X [st] t := ⟨pss_one h1.h⟩
end
section
variable {X : Cx} {st : Stmt} {rest : List Stmt} {t u : TS} {e : Expr} {te : TE} {pos : Pos}
theorem qss_cons (h1 : QS X st t) (h2 : QSs X rest u) : QSs X (st :: rest) (tSeq t u) := ⟨pss_cons h1.h h2.h⟩
end
section
variable {X : Cx} {elt tg iter : Expr} {ifs : List Expr} {scope : Scope} {bs : List Bool} {ext : List Str} {pos : Pos} {wi : TI} {g : TG} {tt : TT} {te : TE}
end
section
variable {X : Cx} {o e value : Expr} {f : Str} {pos pos' tpos : Pos} {ta tv : TE}
theorem qs_fld (ha : QE X o ta) (hv : QE X value tv) (hs : swapsWith value (some (.Attribute o f pos')) pos.line X.env = pure false) : QS X (.Assign [.Attribute o f pos'] value pos) (sFld X.K ta tv f) := ⟨ps_fld ha.h hv.h hs⟩
end
section
variable {X : Cx} {pos : Pos}
theorem qs_set {i : Nat} {x : Str} {e : Expr} {te : TE} {pos' : Pos} (hN : X.N.Nodup) (hi : X.N[i]? = some x) (hx : Loc X.env.scope x) (he : QE X e te) (hs : swapsWith e (some (.Name x pos')) pos.line X.env = pure false := by rfl) (hf : X.fn x = true ∨ X.env.scope.names.lookup x = some .local := by first | exact .inl rfl | exact .inr rfl | assumption) : QS X (.Assign [.Name x pos'] e pos) (tAsg te (gName i)) := ⟨ps_set hN hi hx he.h hs hf⟩
end
section
variable {X : Cx} {pos : Pos}
theorem qs_asg {tg e : Expr} {te : TE} {g : TG} (he : QE X e te) (hg : QG X tg g) (hs : swapsWithSole [tg] e pos.line X.env = pure false := by rfl) (hw : swappedStores [tg] e X.env = pure none := by rfl) (h1 : (assignEach [tg] X.env).map (·.2) = [assign tg X.env] := by rfl) : QS X (.Assign [tg] e pos) (tAsg te g) := ⟨ps_asg he.h hg.h hs hw h1⟩
end
section
variable {X : Cx} {pos : Pos}
end
section
variable {X : Cx} {st : Stmt} {rest : List Stmt} {t u : TS} {e : Expr} {te : TE} {pos : Pos}
end
section
variable {X : Cx} {st : Stmt} {rest : List Stmt} {t u : TS} {e : Expr} {te : TE} {pos : Pos}
theorem qs_ret (he : QE X e te) : QS X (.Return (some e) pos) (tRet te) := ⟨ps_ret he.h⟩
end
section
variable {X : Cx} {st : Stmt} {rest : List Stmt} {t u : TS} {e : Expr} {te : TE} {pos : Pos}
theorem qs_if {c : Expr} {a b : List Stmt} {tc : TT} (hc : QT X c tc) (ha : QSs X a t) (hb : QSs X b u) : QS X (.If c a b pos) (tIfS tc t u) := ⟨ps_if hc.h ha.h hb.h⟩
end
section
variable {X : Cx} {tg : Expr}
theorem qs_for {iter : Expr} {body : List Stmt} {wi : TI} {g : TG} {tb : TS} {pos : Pos} (hp : PassesOwn (model X.prog X.w) X.A X.env X.xe) (hc : X.calm = true) (hi : QI X tg iter wi) (hg : QG X tg g) (hb : QSs X body tb) (hs : ∀ x, foldedSetIterable iter X.env x = pure x := by intro _; rfl) : QS X (.For tg iter body [] pos) (tFor wi g tb) := ⟨ps_for hp hc hi.h hg.h hb.h hs⟩
end
section
variable {X : Cx} {pos : Pos}
theorem qs_while {c : Expr} {body : List Stmt} {tc : TT} {tb : TS} (hp : PassesOwn (model X.prog X.w) X.A X.env X.xe) (hc : QT X c tc) (hb : QSs X body tb) : QS X (.While c body [] pos) (tWhile tc tb) := ⟨ps_while hp hc.h hb.h⟩
end
section
variable {X : Cx} {st : Stmt} {rest : List Stmt} {t u : TS} {e : Expr} {te : TE} {pos : Pos}
theorem qs_expr (he : QE X e te) (hs : swapsWith e none pos.line X.env = pure false := by rfl) : QS X (.Expr e pos) (tDrop te) := ⟨ps_expr he.h hs⟩
end
section
variable {X : Cx} {st : Stmt} {rest : List Stmt} {t u : TS} {e : Expr} {te : TE} {pos : Pos}
end
section
variable {X : Cx} {st : Stmt} {rest : List Stmt} {t u : TS} {e : Expr} {te : TE} {pos : Pos}
end
section
variable {X : Cx} {st : Stmt} {rest : List Stmt} {t u : TS} {e : Expr} {te : TE} {pos : Pos}
end
section
variable {X : Cx} {tg : Expr}
theorem qi_range1 {a : Expr} {ta : TA} {p pos : Pos} (hg : Gl X "range") (hm : X.mg "range" = none) (ha : QA X [a] ta) (hs : starEach [a] X.env = [(false, eval a X.env)] := by rfl) : QI X tg (.Call (.Name "range" p) [a] [] pos) (iRng1 ta) := ⟨pi_range1 hg hm ha.h hs⟩
end
section
variable {X : Cx} {tg : Expr}
end
section
end
section
end
section
variable {X : Cx} {K : PySem.W.Frag}
theorem qi_listK {tg l : Expr} {tl : TE} (h : X.K = K) (hl : QE X l tl) : QI X tg l (iList K tl) := ⟨pi_listK h hl.h⟩
end
section
variable {X : Cx} {K : PySem.W.Frag}
end
section
variable {X : Cx} {pos : Pos}
theorem qg_name {i : Nat} {x : Str} (hN : X.N.Nodup) (hi : X.N[i]? = some x) (hx : Loc X.env.scope x) (hf : X.fn x = true ∨ X.env.scope.names.lookup x = some .local := by first | exact .inl rfl | exact .inr rfl | assumption) : QG X (.Name x pos) (gName i) := ⟨pg_name hN hi hx hf⟩
end
section
variable {X : Cx} {K : PySem.W.Frag}
theorem qg_t2K {i j : Nat} {x y : Str} {px py pos : Pos} {kk : Nat} (h : X.K = K) (hN : X.N.Nodup) (hc : X.calm = true) (hi : X.N[i]? = some x) (hj : X.N[j]? = some y) (lx : Loc X.env.scope x) (ly : Loc X.env.scope y) (fx : X.fn x = true ∨ X.env.scope.names.lookup x = some .local) (fy : X.fn y = true ∨ X.env.scope.names.lookup y = some .local) : QG X (.Tuple [.Name x px, .Name y py] kk pos) (gTup K 2 (gCons (gName i) (gCons (gName j) gNil))) := ⟨pg_t2K h hN hc hi hj lx ly fx fy⟩
end
section
variable {X : Cx} {K : PySem.W.Frag}
end
section
variable {X : Cx} {pos : Pos}
end
section
variable {X : Cx} {pos : Pos}
end
section
variable {X : Cx} {pos : Pos}
end
section
variable {X : Cx} {pos : Pos}
theorem qg_sub {o i : Expr} {to ti : TE} {t : TSet} (ho : QE X o to) (hi : QE X i ti) (hs : PSet X t) (ha : ∀ v, assign (.Subscript o i pos) X.env v = (do
      let ov ← holding [v] (eval o X.env)
      let iv ← holding [v, ov] (eval i X.env)
      standAt pos
      holding [v, ov, iv] (setItem ov iv v)
      release [v, ov, iv] []) := by intro _; rfl) : QG X (.Subscript o i pos) (gSub to ti t) := ⟨pg_sub ho.h hi.h hs ha⟩
end
section
theorem qts_nil {X : Cx} : QTs X [] tYes := ⟨pts_nil ⟩
end
section
end
section
theorem qa_c {X : Cx} {e : Expr} {es : List Expr} {te : TE} {t : TA} (ha : QE X e te) (hr : QA X es t) (h : noStar e = true := by rfl) : QA X (e :: es) (tCons te t) := ⟨pa_c ha.h hr.h h⟩
end
section
variable {X : Cx} {e : Expr} {es : List Expr} {te : TE} {t : TA} {pos : Pos}
theorem qa_nil  : QA X [] tNil := ⟨pa_nil ⟩
end
section
variable {X : Cx} {a b c : Expr} {ta tb tc : TE} {pos : Pos}
theorem qt_cmpR {op : CmpOp} {r : R2} (ho : OpR X (compareOp op) r) (ha : QE X a ta) (hb : QE X b tb) (hm : behindInMarks op b = false) : QT X (.Compare a [op] [b] pos) (tTest (tOp r ta tb)) := ⟨pt_cmpR ho ha.h hb.h hm⟩
end
section
variable {X : Cx} {a b c : Expr} {ta tb tc : TE} {pos : Pos}
end
section
theorem qw_pt {X : Cx} {e : Expr} {t : TT} (h : QW X e t) : QT X e t := ⟨PW.pt h.h⟩
end
section
variable {X : Cx}
variable {a b : Expr} {ta tb : TE} {pos : Pos}
variable {tA tB' : TT} {rest : List Expr}
theorem qw_and (ha : QT X a tA) (hb : QW X (.BoolOp .And (b :: rest) pos) tB') : QW X (.BoolOp .And (a :: b :: rest) pos) (tAnd tA tB') := ⟨pw_and ha.h hb.h⟩
end
section
variable {X : Cx}
variable {a b : Expr} {ta tb : TE} {pos : Pos}
variable {tA tB' : TT} {rest : List Expr}
theorem qw_and1 (ha : QT X a tA) : QW X (.BoolOp .And [a] pos) tA := ⟨pw_and1 ha.h⟩
end
section
variable {X : Cx}
variable {a b : Expr} {ta tb : TE} {pos : Pos}
variable {tA tB' : TT} {rest : List Expr}
theorem qw_or (ha : QT X a tA) (hb : QW X (.BoolOp .Or (b :: rest) pos) tB') : QW X (.BoolOp .Or (a :: b :: rest) pos) (tOr tA tB') := ⟨pw_or ha.h hb.h⟩
end
section
variable {X : Cx}
variable {a b : Expr} {ta tb : TE} {pos : Pos}
variable {tA tB' : TT} {rest : List Expr}
theorem qw_or1 (ha : QT X a tA) : QW X (.BoolOp .Or [a] pos) tA := ⟨pw_or1 ha.h⟩
end
section
variable {X : Cx}
variable {a b : Expr} {ta tb : TE} {pos : Pos}
variable {tA tB' : TT} {rest : List Expr}
theorem qt_not (ha : QT X a tA) : QT X (.UnaryOp .Not a pos) (tNot tA) := ⟨pt_not ha.h⟩
end
section
variable {X : Cx}
variable {a b : Expr} {ta tb : TE} {pos : Pos}
theorem qt_val {e : Expr} {t : TE} (h : QE X e t) (he : ∀ whole, isTrue e X.env whole = (do let v ← whole; standAt e.pos; holding [v] (truthy v)) := by intro _; rfl) : QT X e (tB t) := ⟨pt_val h.h he⟩
end
section
variable {X : Cx} {K : PySem.W.Frag}
end
section
variable {X : Cx}
theorem qe_non {j pos} : QE X (.Constant .none j pos) (tC .non) := ⟨pe_non ⟩
end
section
variable {X : Cx}
theorem qe_bl {b j pos} : QE X (.Constant (.bool b) j pos) (tC (.bl b)) := ⟨pe_bl ⟩
end
section
variable {X : Cx}
theorem qe_int {i j pos} : QE X (.Constant (.int i) j pos) (tC (.int i)) := ⟨pe_int ⟩
end
section
variable {X : Cx}
theorem qe_str {x j pos} : QE X (.Constant (.str x) j pos) (tC (.str x)) := ⟨pe_str ⟩
end
section
variable {X : Cx}
theorem qv (i : Nat) {x : Str} {pos : Pos} (hN : X.N[i]? = some x := by rfl) (hv : Vis X.env.scope x := by first | exact Or.inl rfl | exact Or.inr (Or.inl rfl) | exact Or.inr (Or.inr rfl)) (hd : (x == ("__debug__" : Str)) = false := by decide) (hcd : (x == ("__classdict__" : Str)) = false := by decide) : QE X (.Name x pos) (tVar i) := ⟨pv i hN hv hd hcd⟩
end
section
variable {X : Cx} {a b c : Expr} {ta tb tc : TE} {pos : Pos}
theorem qe_un {op : UnaryOp} {r : V → Hp → VK → Prop} (ho : UnR X (unaryOp op) r) (ha : QE X a ta) : QE X (.UnaryOp op a pos) (tUn r ta) := ⟨pe_un ho ha.h⟩
end
section
variable {X : Cx}
variable {a b : Expr} {ta tb : TE} {pos : Pos}
variable {tA tB' : TT} {rest : List Expr}
end
section
variable {X : Cx} {a b c : Expr} {ta tb tc : TE} {pos : Pos}
theorem qe_op {op : Operator} {r : R2} (ho : OpR X (binaryOp op) r) (ha : QE X a ta) (hb : QE X b tb) : QE X (.BinOp a op b pos) (tOp r ta tb) := ⟨pe_op ho ha.h hb.h⟩
end
section
variable {X : Cx} {a b c : Expr} {ta tb tc : TE} {pos : Pos}
theorem qe_cmpR {op : CmpOp} {r : R2} (ho : OpR X (compareOp op) r) (ha : QE X a ta) (hb : QE X b tb) (hm : behindInMarks op b = false) : QE X (.Compare a [op] [b] pos) (tOp r ta tb) := ⟨pe_cmpR ho ha.h hb.h hm⟩
end
section
variable {X : Cx} {a b c : Expr} {ta tb tc : TE} {pos : Pos}
end
section
variable {X : Cx}
variable {a b : Expr} {ta tb : TE} {pos : Pos}
variable {tA tB' : TT} {rest : List Expr}
theorem qe_one {op} {t : TE} (h : QE X a t) : QE X (.BoolOp op [a] pos) t := ⟨pe_one h.h⟩
end
section
variable {X : Cx}
variable {a b : Expr} {ta tb : TE} {pos : Pos}
variable {tA tB' : TT} {rest : List Expr}
theorem qe_and (ha : QE X a ta) (hb : QE X (.BoolOp .And (b :: rest) pos) tb) : QE X (.BoolOp .And (a :: b :: rest) pos) (tAndV ta tb) := ⟨pe_and ha.h hb.h⟩
end
section
variable {X : Cx}
variable {a b : Expr} {ta tb : TE} {pos : Pos}
variable {tA tB' : TT} {rest : List Expr}
end
section
variable {X : Cx}
variable {a b : Expr} {ta tb : TE} {pos : Pos}
variable {tA tB' : TT} {rest : List Expr}
theorem qe_ifExp {c : Expr} (hc : QT X c tA) (ha : QE X a ta) (hb : QE X b tb) : QE X (.IfExp c a b pos) (tIf tA ta tb) := ⟨pe_ifExp hc.h ha.h hb.h⟩
end
section
variable {X : Cx} {e : Expr} {es : List Expr} {te : TE} {t : TA} {pos : Pos}
theorem qe_lst (h : QA X es t) : QE X (.List es pos) (tLst t) := ⟨pe_lst h.h⟩
end
section
variable {X : Cx} {e : Expr} {es : List Expr} {te : TE} {t : TA} {pos : Pos}
theorem qe_tup {x1} (h : QA X es t) : QE X (.Tuple es x1 pos) (tTup t) := ⟨pe_tup h.h⟩
end
section
theorem qe_rev {X : Cx} {K : PySem.W.Frag} {e : Expr} {te : TE} {j : Nat} {p1 p2 p3 pos : Pos} (hK : X.K = K) (he : QE X e te) : QE X (.Subscript e (.Slice none none (some (.UnaryOp .USub (.Constant (.int 1) j p1) p3)) p2) pos) (tRev K te) := ⟨pe_rev hK he.h⟩
end
section
variable {X : Cx} {e : Expr} {te : TE} {lo hi : Option Expr} {tl th : TO} {pos p2 : Pos}
theorem qe_slice {r : V → Option Int → Option Int → Hp → VK → Prop} (hr : SlR X r) (he : QE X e te) (hl : QO X lo tl) (hu : QO X hi th) : QE X (.Subscript e (.Slice lo hi none p2) pos) (tSl r te tl th) := ⟨pe_slice hr he.h hl.h hu.h⟩
end
section
variable {X : Cx} {e : Expr} {te : TE} {lo hi : Option Expr} {tl th : TO} {pos p2 : Pos}
theorem qo_some (h : QE X e te) : QO X (some e) (tPart te) := ⟨po_some h.h⟩
end
section
variable {X : Cx} {e : Expr} {te : TE} {lo hi : Option Expr} {tl th : TO} {pos p2 : Pos}
theorem qo_none  : QO X none tNoPart := ⟨po_none ⟩
end
section
variable {X : Cx} {a b : Expr} {ta tb : TE} {pos : Pos}
theorem qe_ix {r : R2} (hr : IxR X r) (ha : QE X a ta) (hb : QE X b tb) (hs : PlainIx b) : QE X (.Subscript a b pos) (tOp r ta tb) := ⟨pe_ix hr ha.h hb.h hs⟩
end
section
variable {X : Cx} {o i e value : Expr} {pos pos' tpos : Pos} {td ty tv : TE}
end
section
variable {X : Cx} {o e value : Expr} {f : Str} {pos pos' tpos : Pos} {ta tv : TE}
theorem qe_fld (he : QE X e ta) (hb : attributeBase e f X.env (eval e X.env) = eval e X.env) : QE X (.Attribute e f pos) (tFld X.K ta f) := ⟨pe_fld he.h hb⟩
end
section
variable {X : Cx} {elt tg iter : Expr} {ifs : List Expr} {scope : Scope} {bs : List Bool} {ext : List Str} {pos : Pos} {wi : TI} {g : TG} {tt : TT} {te : TE}
theorem qe_lc (bs : List Bool) (ext : List Str) (hi : QI X tg iter wi) (hg : ∀ fp s H, QG (cxB X scope ext fp s H) tg g) (ht : ∀ fp s H, QTs (cxB X scope ext fp s H) ifs tt) (he : ∀ fp s H, QE (cxB X scope ext fp s H) elt te) (hk : compChk scope X.env X.N bs = true := by rfl) (hc : X.calm = true := by rfl) (hs : ∀ x, foldedSetIterable iter X.env x = pure x := by intro _; rfl) : QE X (.ListComp elt [⟨tg, iter, ifs, 0⟩] scope pos) (tComp wi bs ext.length g tt te) := ⟨pe_lc bs ext hi.h (fun fp s H => (hg fp s H).h) (fun fp s H => (ht fp s H).h) (fun fp s H => (he fp s H).h) hk hc hs⟩
end
section
end
section
end
section
end
section
variable {X : Cx} {x : Str} {k : Nat} {ps : List Str} {sp : Sp} {p pos : Pos} {e : Expr} {es : List Expr} {t : TA}
theorem qe_def (D : Def X.prog X.w X.K X.mg X.base x k ps sp) (hr : Room k X.A) (ha : QA X (e :: es) t) (hg : Gl X x := by rfl) (hdb : (x == ("__debug__" : Str)) = false := by decide) (he : starEach (e :: es) X.env = (false, eval e X.env) :: starEach es X.env := by rfl) (hpl : (backTo pos (starEach es X.env)).any (·.1) = false := by rfl) : QE X (.Call (.Name x p) (e :: es) [] pos) (tCall sp [] E0 t) := ⟨pe_def D hr ha.h hg hdb he hpl⟩
end
section
variable {X : Cx} {x : Str} {k : Nat} {ps : List Str} {sp : Sp} {p pos : Pos} {e : Expr} {es : List Expr} {t : TA}
end
section
variable {X : Cx} {x : Str} {p pos : Pos} {e : Expr} {es : List Expr} {t : TA} {id T : String} {r : List V → Hp → VK → Prop}
theorem qe_callB (hc : CallR X (.builtin id) r) (hg : Gl X x) (hm : X.mg x = none) (hv : bootBuiltins x = some (.builtin id)) (ha : QA X (e :: es) t) (hn : x ≠ "__name__" := by decide) (hdb : (x == ("__debug__" : Str)) = false := by decide) (he : starEach (e :: es) X.env = (false, eval e X.env) :: starEach es X.env := by rfl) (hpl : (backTo pos (starEach es X.env)).any (·.1) = false := by rfl) : QE X (.Call (.Name x p) (e :: es) [] pos) (tCB r t) := ⟨pe_callB hc hg hm hv ha.h hn hdb he hpl⟩
end
section
variable {X : Cx} {x : Str} {p pos : Pos} {e : Expr} {es : List Expr} {t : TA} {id T : String} {r : List V → Hp → VK → Prop}
theorem qe_callTy (hc : CallR X (.type T) r) (hg : Gl X x) (hm : X.mg x = none) (hv : bootBuiltins x = some (.type T)) (ha : QA X (e :: es) t) (hn : x ≠ "__name__" := by decide) (hdb : (x == ("__debug__" : Str)) = false := by decide) (he : starEach (e :: es) X.env = (false, eval e X.env) :: starEach es X.env := by rfl) (hpl : (backTo pos (starEach es X.env)).any (·.1) = false := by rfl) : QE X (.Call (.Name x p) (e :: es) [] pos) (tCB r t) := ⟨pe_callTy hc hg hm hv ha.h hn hdb he hpl⟩
end
section
variable {X : Cx}
theorem qe_bltn {x : Str} {v : V} {u : Value} {pos : Pos} (hg : Gl X x) (hm : X.mg x = none) (hv : bootBuiltins x = some u) (r : RelV v u) (hn : x ≠ "__name__" := by decide) (hd : (x == ("__debug__" : Str)) = false := by decide) : QE X (.Name x pos) (tC v) := ⟨pe_bltn hg hm hv r hn hd⟩
end
section
variable {X : Cx} {a b : Expr} {ta tb : TE} {pos : Pos}
variable {o e : Expr} {es : List Expr} {to : TE} {t : TA} {name : Str} {apos cpos : Pos} {T id : String} {r : V → List V → Hp → VK → Prop}
end
section
variable {X : Cx} {a b : Expr} {ta tb : TE} {pos : Pos}
variable {o e : Expr} {es : List Expr} {to : TE} {t : TA} {name : Str} {apos cpos : Pos} {T id : String} {r : V → List V → Hp → VK → Prop}
end
section
variable {X : Cx} {K : PySem.W.Frag}
theorem qe_lm {o e : Expr} {es : List Expr} {to : TE} {t : TA} {name : Str} {apos cpos : Pos} {id : String} {r : V → List V → Hp → VK → Prop} (slot : Slot "list" name id) (hty : typeOf (.builtin id) = pure (.type "method_descriptor")) (hm : MtR X id r) (ho : QE X o to) (ha : QA X (e :: es) t) (hbase : attributeBase o name X.env (eval o X.env) = eval o X.env := by rfl) (hfew : ((backTo cpos (starEach (e :: es) X.env)).all (fun x => !x.1) && (backToKw cpos (keywordEach [] X.env)).all (fun x => x.1.isSome)
      && decide ((e :: es).length + ([] : List Keyword).length + (if ([] : List Keyword).isEmpty then 0 else 1) < 30)) = true := by rfl) (hline : (apos.endLine == cpos.line) = true := by rfl) (hs : starEach (e :: es) X.env = (false, eval e X.env) :: starEach es X.env := by rfl) (hplain : (backTo cpos (starEach es X.env)).any (·.1) = false := by rfl) : QE X (.Call (.Attribute o name apos) (e :: es) [] cpos) (tLM r to t) := ⟨pe_lm slot hty hm ho.h ha.h hbase hfew hline hs hplain⟩
end
section
theorem qe_mdef {X : Cx} {pl : Sem Bool} {C : Addr} {m : Str} {k : Nat} {ps : List Str} {sp : Sp} {o e : Expr} {es : List Expr} {ta : TE} {t : TA} {apos pos : Pos} (D : MDef X.prog X.w X.K X.mg X.base C m k ps sp) (c : Cls X.K C) (he : QE X o ta) (hr : Room k X.A) (ha : QA X (e :: es) t) (hst : starEach (e :: es) X.env = (false, eval e X.env) :: starEach es X.env := by rfl) (hpl : (backTo pos (starEach es X.env)).any (·.1) = false := by rfl) (ht : eval (.Call (.Attribute o m apos) (e :: es) [] pos) X.env = (do
      let ov ← eval o X.env
      standAt apos.atName
      let (f, first) ← holding [ov] (getMethod ov m pl)
      callWith pos f first (backTo pos (starEach (e :: es) X.env)) (backToKw pos (keywordEach [] X.env))) := by rfl) : QE X (.Call (.Attribute o m apos) (e :: es) [] pos) (tMeth C m sp [] E0 ta t) := ⟨pe_mdef D c he.h hr ha.h hst hpl ht⟩
end
section
theorem qe_gint {X : Cx} {x : Str} {n : Int} {pos : Pos} (G : GInt X.mg x n) (hg : Gl X x) (hd : (x == ("__debug__" : Str)) = false := by decide) : QE X (.Name x pos) (tC (.int n)) := ⟨pe_gint G hg hd⟩
end
end L2

namespace L2
open PySem PySem.Spec PyProof.Rows
section
variable {X : Cx} {o i e value : Expr} {pos pos' tpos : Pos} {td ty tv : TE}
end
end L2

namespace L2
open PySem PySem.Spec PyProof.Rows
/-! ### objects: making; try where nothing is raised; raise that is not come to -/
structure MkDef (P : Program) (w : World) (K : PySem.W.Frag) (mg : Str → Option Value) (base : Heap) (C : Addr) (x : Str) (k : Nat) (ps : List Str) (sp : Sp) : Prop where
  ex : ∃ (f : Addr) (fd : FuncData), Mk K C f ∧ mg x = some (.ref C) ∧ Binds K fd ps [] ∧ FnOk P w K mg base CX0 k f fd ps sp
section
variable {X : Cx} {C : Addr} {k : Nat} {ps : List Str} {sp : Sp} {x : Str} {p pos : Pos} {e : Expr} {es : List Expr} {t : TA}
theorem qe_mk0 (D : MkDef X.prog X.w X.K X.mg X.base C x k ps sp) (hr : Room (k + 1) X.A) (hg : Gl X x) (hdb : (x == ("__debug__" : Str)) = false := by decide) : QE X (.Call (.Name x p) [] [] pos) (tMake C sp [] E0 tNil) := by
  obtain ⟨f, fd, h1, h2, h3, h4⟩ := D.ex
  exact ⟨pe_make0 h1 h4 hr hg h2 h3 .nil pass0 hdb⟩
def tRaiseNo : TS := fun _ _ _ => False
theorem qs_raise {e c : Option Expr} : QS X (.Raise e c pos) tRaiseNo := ⟨fun _ _ _ _ _ _ h => h.elim⟩
theorem qs_par {i j : Nat} {x y : Str} {a b : Expr} {ta : TA} {px py pt : Pos} {kt k2 pt2} (hc : X.calm = true) (hN : X.N.Nodup) (hi : X.N[i]? = some x) (hj : X.N[j]? = some y) (hij : i ≠ j) (hx : X.env.scope.names.lookup x = some .local) (hy : X.env.scope.names.lookup y = some .local) (ha : QA X [a, b] ta)
    (hw : swappedStores [.Tuple [.Name x px, .Name y py] kt pt] (.Tuple [a, b] k2 pt2) X.env = pure (some [x, y])) (hs : swapsWithSole [.Tuple [.Name x px, .Name y py] kt pt] (.Tuple [a, b] k2 pt2) pos.line X.env = pure false := by rfl) :
    QS X (.Assign [.Tuple [.Name x px, .Name y py] kt pt] (.Tuple [a, b] k2 pt2) pos) (tPar i j ta) := ⟨ps_par hc hN hi hj hij hx hy ha.h hw hs⟩
end
end L2

namespace L2
open PySem PySem.Spec PyProof.Rows
/-! ### exceptions: a def that raises, calls that pass an exception on -/
section
variable {P : Program} {w : World} {H H' : Hp} {h h' : Heap}
theorem HOk.tracked (x : HOk P w H h) (k : ∀ b u, H b ≠ none → h.get? b = some u → h'.get? b = some u) : HOk P w H h' := fun a o e =>
  (x a o e).stay (fun b u hb q => k b u (by rcases hb with rfl | hb; · rw [e]; simp
                                            · rw [hb]; simp) q) (fun _ q => q) fun _ _ q => q
end
/-- an exception at a of the class C flies over the frames of outer: what was ahead of the call (H, s) is kept but for what is tracked (now H') and the frames' slots -/
structure Fli (P : Program) (w : World) (outer : List Env) (H : Hp) (s : Shared) (a : Addr) (C : Value) (H' : Hp) (s' : Shared) : Prop where
  os : s'.os = s.os
  bare : AllBare s'.gens
  fly : ∃ (B : Heap) (a0 : Value), Heap.FlyingW B outer a C a0 s'.heap ∧ HOk P w H' B ∧ (∀ b ∈ frs outer, B.get? b = none) ∧ (∀ b o, s.heap.get? b = some o → H b = none → b ∉ frs outer → B.get? b = some o) ∧
    ∀ b o, s.heap.get? b = some o → H b ≠ none → ∃ o', B.get? b = some o'
  up : ∀ b o, s.heap.get? b = some o → H b = none → b ∈ frs outer → ∃ sl, s'.heap.get? b = some { o with slots := sl }
  free : ∀ b o, s.heap.get? b = some o → H b = none → H' b = none
  tups : ∀ b xs, H b = some (.tup xs) → H' b = some (.tup xs)
  frzs : ∀ b o u, H b = some (.frz o u) → H' b = some (.frz o u)
  tbls : ∀ b ps, H b = some (.tbl ps) → ∃ more, H' b = some (.tbl (ps ++ more))
def CXe (P : Program) (w : World) : CXT := fun outer H s E e s' => ∃ a C H', e = .ref a ∧ Fli P w outer H s a C H' s' ∧ E C none H'
theorem CXe.mono {P : Program} {w : World} {outer : List Env} {H : Hp} {s s' : Shared} {E E' : XK} {e : Value} (h : CXe P w outer H s E e s') (k : ∀ C H', E C none H' → E' C none H') : CXe P w outer H s E' e s' := by
  obtain ⟨a, C, H', e1, f, q⟩ := h
  exact ⟨a, C, H', e1, f, k C H' q⟩
/-- a body of a def: its own frame is the first of the stack -/
structure Body (X : Cx) (outer : List Env) : Prop where
  stk : X.stack = X.env :: outer
  out : X.outer = outer
  fr : X.env.frame = some X.env.locals
  ex : X.ex = []
section
variable {X : Cx} {outer : List Env} {pins : List (Addr × Obj)} {σ : St} {H : Hp} {s : Shared}
theorem Inv.old (I : Inv X pins σ H s) {b : Addr} {o : Obj} (q : X.s₀.heap.get? b = some o) : b ≠ X.env.locals := fun z => by
  subst z
  exact absurd (Heap.lt_size q) (Nat.not_lt.mpr I.ok.above)
theorem Body.mem (Y : Body X outer) {b : Addr} (hb : b ∈ frs X.stack) : b = X.env.locals ∨ b ∈ frs outer := by
  rw [Y.stk] at hb
  obtain ⟨env, he, hf⟩ := List.mem_filterMap.mp hb
  rcases List.mem_cons.mp he with rfl | he
  · rw [Y.fr] at hf; exact .inl (Option.some.inj hf).symm
  · exact .inr (List.mem_filterMap.mpr ⟨env, he, hf⟩)
theorem Body.in_ (Y : Body X outer) {b : Addr} (hb : b ∈ frs outer) : b ∈ frs X.stack := by
  rw [Y.stk]
  obtain ⟨env, he, hf⟩ := List.mem_filterMap.mp hb
  exact List.mem_filterMap.mpr ⟨env, .tail _ he, hf⟩
/-- made here, it leaves the def -/
theorem made_leaves (Y : Body X outer) (I : Inv X pins σ H s) {e : Addr} {C : Value} {args : List Value} {h1 : Heap} {E : XK} {R : Value → Shared → Prop} {M : Model} {A : Around} (hA : A.frames = some X.stack) (hx : Heap.MadeExcOf s.heap h1 e C args) (hE : E C none H) :
    wpAny M A (leaving X.env (.ref e)) (fun _ s'' => CXe X.prog X.w outer X.H₀ X.s₀ E (.ref e) s'') R { s with heap := h1 } := by
  have hin : ∀ env ∈ X.stack, ∀ b, env.frame = some b → b ∈ frs X.stack := fun env he b hb => List.mem_filterMap.mpr ⟨env, he, hb⟩
  have hl : s.heap.FunFrames (PySem.W.hideAll s.heap (frs X.stack)) X.stack := PySem.W.funFrames_hide I.stack hin
  rw [Y.stk] at hA
  have ob : ∀ b o, X.s₀.heap.get? b = some o → b ∉ frs outer → b ∉ frs X.stack := fun b o q n z => by
    rcases Y.mem z with z | z
    · exact I.old q z
    · exact n z
  have nx : ∀ b, b ∉ X.ex := fun b => by rw [Y.ex]; simp
  have fs : ∀ b, b ∈ frs outer ↔ b ∈ X.fs := fun b => by show _ ↔ b ∈ frs X.outer; rw [Y.out]
  refine wpAny_leaves_madeW (base := PySem.W.hideAll s.heap (frs X.stack)) hA Y.fr (fun b o q => PySem.W.of_hideAll _ q) (by rw [← Y.stk]; exact hl) hx fun h' t x1 x2 x3 x4 => ?_
  refine ⟨e, C, H, rfl, ⟨I.os, I.bare, ⟨_, _, x1, ?_, ?_, ?_, ?_⟩, ?_, ?_, I.base.tups, I.base.frzs, I.base.tbls⟩, hE⟩
  · exact I.hok.tracked fun b u hb q => PySem.W.hideAll_get _ q fun hm => hb (I.stkFree b hm)
  · exact fun b hb => PySem.W.hideAll_none _ (Y.in_ hb)
  · exact fun b o q n hb => PySem.W.hideAll_get _ (I.base.keep b o q n (fun z => hb ((fs b).mpr z)) (nx b)) (ob b o q hb)
  · intro b o q n
    obtain ⟨o', e1⟩ := I.base.there b o q (nx b)
    refine ⟨o', PySem.W.hideAll_get _ e1 (ob b o q fun z => n (I.ok.frf b ((fs b).mp z)))⟩
  · intro b o q n hb
    obtain ⟨sl, e1⟩ := I.base.slot b o q n ((fs b).mp hb) (nx b)
    obtain ⟨_, o', ho', hd⟩ := I.ok.funs.mem (show b ∈ X.outer.filterMap (·.frame) from (fs b).mp hb)
    rw [q] at ho'; cases ho'
    obtain ⟨sl2, e2⟩ := x4 b _ (hx.keeps _ _ e1) hd
    exact ⟨sl2, e2⟩
  · exact fun b o q n => I.base.free b o q n (nx b)
/-- a callee's exception leaves the def -/
theorem on_leaves (Y : Body X outer) (I : Inv X pins σ H s) {e : Value} {s' : Shared} {E : XK} {R : Value → Shared → Prop} {M : Model} {A : Around} (hA : A.frames = some X.stack) (hx : CXe X.prog X.w X.stack H s E e s') :
    wpAny M A (leaving X.env e) (fun _ s'' => CXe X.prog X.w outer X.H₀ X.s₀ E e s'') R s' := by
  obtain ⟨a, C, H', rfl, F, hE⟩ := hx
  obtain ⟨B, a0, fl, hok, nb, kp, th⟩ := F.fly
  have ob : ∀ b o, X.s₀.heap.get? b = some o → b ∉ frs outer → b ∉ frs X.stack := fun b o q n z => by
    rcases Y.mem z with z | z
    · exact I.old q z
    · exact n z
  have nx : ∀ b, b ∉ X.ex := fun b => by rw [Y.ex]; simp
  have fs : ∀ b, b ∈ frs outer ↔ b ∈ X.fs := fun b => by show _ ↔ b ∈ frs X.outer; rw [Y.out]
  rw [Y.stk] at hA fl
  refine wpAny_leaves_onW hA Y.fr fl fun h' x1 x4 => ?_
  refine ⟨a, C, H', rfl, ⟨F.os.trans I.os, F.bare, ⟨B, a0, x1, hok, fun b hb => nb b (Y.in_ hb), ?_, ?_⟩, ?_, ?_, fun b xs q => F.tups b xs (I.base.tups b xs q), fun b o u q => F.frzs b o u (I.base.frzs b o u q), ?_⟩, hE⟩
  · exact fun b o q n hb => kp b o (I.base.keep b o q n (fun z => hb ((fs b).mpr z)) (nx b)) (I.base.free b o q n (nx b)) (ob b o q hb)
  · intro b o q n
    obtain ⟨o', e1⟩ := I.base.there b o q (nx b)
    cases hb : H b with
    | none => exact ⟨o', kp b o' e1 hb (ob b o q fun z => n (I.ok.frf b ((fs b).mp z)))⟩
    | some u => exact th b o' e1 (by rw [hb]; simp)
  · intro b o q n hb
    obtain ⟨sl, e1⟩ := I.base.slot b o q n ((fs b).mp hb) (nx b)
    obtain ⟨sl', e2⟩ := F.up b _ e1 (I.base.free b o q n (nx b)) (Y.in_ hb)
    obtain ⟨_, o', ho', hd⟩ := I.ok.funs.mem (show b ∈ X.outer.filterMap (·.frame) from (fs b).mp hb)
    rw [q] at ho'; cases ho'
    obtain ⟨sl2, e3⟩ := x4 b _ e2 hd
    exact ⟨sl2, e3⟩
  · intro b o q n
    obtain ⟨o', e1⟩ := I.base.there b o q (nx b)
    exact F.free b o' e1 (I.base.free b o q n (nx b))
  · intro b ps q
    obtain ⟨m1, e1⟩ := I.base.tbls b ps q
    obtain ⟨m2, e2⟩ := F.tbls b _ e1
    exact ⟨m1 ++ m2, by rw [e2, Array.append_assoc]⟩
end
end L2

namespace L2
open PySem PySem.Spec PyProof.Rows
/-! ### statements that may raise. An exception of the class named nm that is met where the slots are σ is an end: D.bk (some nm :: σ) -/
def EX (mg : Str → Option Value) (D : Ends) (σ : St) : XK := fun C _ H' => ∃ nm, mg nm = some C ∧ D.bk (some (.str nm) :: σ) H'
def Cmp (X : Cx) (E : XK) (σ : St) : Prop := ∀ pins H s e s', Inv X pins σ H s → CXe X.prog X.w X.stack H s E e s' → X.xe e s'
/-- r: the body may raise by itself -/
def CmpD (r : Prop) (X : Cx) (D : Ends) : Prop := (∀ σ, Cmp X (EX X.mg D σ) σ) ∧ (r → ∀ pins σ H s e C args h1, Inv X pins σ H s → Heap.MadeExcOf s.heap h1 e C args → EX X.mg D σ C none H → X.xe (.ref e) { s with heap := h1 })
structure QX (r : Prop) (X : Cx) (st : Stmt) (t : TS) : Prop where
  h : ∀ pins s σ H D, CmpD r X D → Inv X pins σ H s → t D σ H → wpAny (model X.prog X.w) X.A (exec st X.env) (SP X pins D) X.xe s
structure QXs (r : Prop) (X : Cx) (st : List Stmt) (t : TS) : Prop where
  h : ∀ pins s σ H D, CmpD r X D → Inv X pins σ H s → t D σ H → wpAny (model X.prog X.w) X.A (execs st X.env) (SP X pins D) X.xe s
/-- an expression that may raise -/
abbrev TX := St → Hp → VK → XK → Prop
structure QXe (X : Cx) (e : Expr) (t : TX) : Prop where
  h : ∀ pins s σ H Q E, Cmp X E σ → Inv X pins σ H s → t σ H Q E → wpAny (model X.prog X.w) X.A (eval e X.env) (EP X pins σ Q) X.xe s
section
variable {r : Prop} {X : Cx} {st : Stmt} {rest : List Stmt} {t u : TS} {e : Expr} {te : TE} {tx : TX} {pos : Pos}
theorem qxs_cons (h1 : QX r X st t) (h2 : QXs r X rest u) : QXs r X (st :: rest) (tSeq t u) := ⟨fun pins s σ H D c I h => by
  refine wpAny_execs_cons (thn (h1.h pins s σ H { D with nx := u D } c I h) fun f s1 q => ?_)
  cases f with
  | next =>
    obtain ⟨σ', H', I', q⟩ := q
    exact h2.h pins s1 σ' H' D c I' q
  | ret v => exact q
  | brk => exact q
  | cont => exact q⟩
theorem qxs_nil : QXs r X [] tNext := ⟨fun pins s σ H D c I h => wpAny_execs_nil ⟨σ, H, I, h⟩⟩
theorem qxs_one (h1 : QX r X st t) : QXs r X [st] t := ⟨fun pins s σ H D c I h => by
  refine wpAny_execs_cons (thn (h1.h pins s σ H D c I h) fun f s1 q => ?_)
  cases f with
  | next => exact wpAny_execs_nil q
  | ret v => exact q
  | brk => exact q
  | cont => exact q⟩
theorem qx_of (h : QS X.nox st t) : QX r X st t := ⟨fun pins s σ H D _ I q => wpAny_mono (h.h pins s σ H D (I.wish _) q) (fun _ _ z => z.unwish) fun _ _ z => False.elim z⟩
theorem qx_if {c : Expr} {a b : List Stmt} {tc : TT} (hc : QT X.nox c tc) (ha : QXs r X a t) (hb : QXs r X b u) : QX r X (.If c a b pos) (tIfS tc t u) := ⟨fun pins s σ H D k I h => by
  refine wpAny_If (thn (hc.h.nox pins s σ H _ I h) fun d s1 ⟨H1, I1, q1⟩ => ?_)
  cases d with
  | true => exact ha.h pins s1 σ H1 D k I1 q1
  | false => exact hb.h pins s1 σ H1 D k I1 q1⟩
def tDropX (tx : TX) (mg : Str → Option Value) : TS := fun D σ H => tx σ H (fun _ H1 => D.nx σ H1) (EX mg D σ)
theorem qx_expr (he : QXe X e tx) (hs : swapsWith e none pos.line X.env = pure false := by rfl) : QX r X (.Expr e pos) (tDropX tx X.mg) := ⟨fun pins s σ H D k I h =>
  wpAny_Expr_any (thn (he.h pins s σ H _ _ (k.1 σ) I h) fun v s1 ⟨x, H1, I1, r1, q1⟩ => ⟨σ, H1, I1, q1⟩) I.quiet hs⟩
def tRetX (tx : TX) (mg : Str → Option Value) : TS := fun D σ H => tx σ H D.rt (EX mg D σ)
theorem qx_ret (he : QXe X e tx) : QX r X (.Return (some e) pos) (tRetX tx X.mg) := ⟨fun pins s σ H D k I h =>
  wpAny_Return_some (thn (he.h pins s σ H _ _ (k.1 σ) I h) fun v s1 ⟨x, H1, I1, r1, q1⟩ => ⟨x, σ, H1, I1, r1, q1⟩)⟩
def tSetX (i : Nat) (tx : TX) (mg : Str → Option Value) : TS := fun D σ H => tx σ H (fun v H1 => D.nx (σ.set i (some v)) H1) (EX mg D σ)
theorem qx_set {i : Nat} {x : Str} {pos' : Pos} (hN : X.N.Nodup) (hi : X.N[i]? = some x) (hx : Loc X.env.scope x) (he : QXe X e tx) (hs : swapsWith e (some (.Name x pos')) pos.line X.env = pure false := by rfl) (hf : X.fn x = true ∨ X.env.scope.names.lookup x = some .local := by first | exact .inl rfl | exact .inr rfl | assumption) :
    QX r X (.Assign [.Name x pos'] e pos) (tSetX i tx X.mg) := ⟨fun pins s σ H D k I h => by
  refine wpAny_Assign_Name (thn (he.h pins s σ H _ _ (k.1 σ) I h) fun v s1 ⟨y, H1, I1, r1, q1⟩ => ?_) hs
  exact store_ok I1 hN hi hx r1 (fun s2 I2 => ⟨_, H1, I2, q1⟩) hf⟩
/-- the callee runs -/
theorem run_fnX {k : Nat} {f : Addr} {fd : FuncData} {ps : List Str} {sp : Sp} {pins : List (Addr × Obj)} {σ : St} {H : Hp} {s : Shared} {Q : VK} {E : XK} {us : List Value} {vs : List V} (F : FnOk X.prog X.w X.K X.mg X.base (CXe X.prog X.w) k f fd ps sp) (hr : Room k X.A) (hb : Binds X.K fd ps []) (hx : Cmp X E σ)
    (I : Inv X pins σ H s) (rv : Vals vs us) (h : sp vs H Q E) : wpAny (model X.prog X.w) X.A (call (.ref f) us) (EP X pins σ Q) X.xe s := by
  have hl : us.length = ps.length := by rw [← rv.length]; exact F.len _ _ _ _ h
  refine wpAny_call (codeAny_mono (F.run X.A X.stack s H ⟨us, []⟩ us vs Q E hr I.env0 (by simpa using hb s us I.kIn (by simpa using hl)) rv h) fun rr s' hq => ?_)
  cases rr with
  | error e => exact hx pins H s e s' I hq
  | ok fl =>
    cases fl with
    | ret u => exact I.after hq
    | next => exact False.elim hq
    | brk => exact False.elim hq
    | cont => exact False.elim hq
/-- defs and methods that may raise -/
structure DefX (P : Program) (w : World) (K : PySem.W.Frag) (mg : Str → Option Value) (base : Heap) (x : Str) (k : Nat) (ps : List Str) (sp : Sp) : Prop where
  ex : ∃ (f : Addr) (fd : FuncData), mg x = some (.ref f) ∧ PySem.W.keepIn K (.ref f) = true ∧ Binds K fd ps [] ∧ FnOk P w K mg base (CXe P w) k f fd ps sp
structure MDefX (P : Program) (w : World) (K : PySem.W.Frag) (mg : Str → Option Value) (base : Heap) (C : Addr) (m : Str) (k : Nat) (ps : List Str) (sp : Sp) : Prop where
  ex : ∃ (f : Addr) (fd : FuncData), Meth K C m f ∧ Binds K fd ps [] ∧ FnOk P w K mg base (CXe P w) k f fd ps sp
def tCallX (sp : Sp) (t : TA) : TX := fun σ H Q E => t σ H fun vs H1 => sp vs H1 Q E
theorem qx_call {x : Str} {k : Nat} {ps : List Str} {sp : Sp} {p : Pos} {es : List Expr} {ta : TA} (D : DefX X.prog X.w X.K X.mg X.base x k ps sp) (hr : Room k X.A) (ha : QA X.nox (e :: es) ta) (hg : Gl X x := by rfl)
    (hdb : (x == ("__debug__" : Str)) = false := by decide) (he : starEach (e :: es) X.env = (false, eval e X.env) :: starEach es X.env := by rfl) (hpl : (backTo pos (starEach es X.env)).any (·.1) = false := by rfl) :
    QXe X (.Call (.Name x p) (e :: es) [] pos) (tCallX sp ta) := ⟨fun pins s σ H Q E hx I h => by
  obtain ⟨f, fd, hm, hk, hb, F⟩ := D.ex
  refine wpAny_Call_Name_kw (ld_glob I hg hm ?_ hdb)
  refine PySem.W.callWith_K (h₀ := X.base) I.ok.mod.kin hk (wpAny_mono (ha.h pos pins s σ H _ (I.wish _) h) (fun us s1 ⟨vs, H1, I1, r, q⟩ => ⟨I1.unwish.kIn, ?_⟩) fun _ _ z => False.elim z) he hpl
  exact run_fnX F hr hb hx I1.unwish r q⟩
def tMethX (C : Addr) (m : Str) (sp : Sp) (ta : TE) (t : TA) : TX := fun σ H Q E => ta σ H fun x H1 => ∃ a dx fs, x = .ref a ∧ H1 a = some (.ins C dx fs) ∧ fs.lookup m = none ∧ t σ H1 fun vs H2 => sp (x :: vs) H2 Q E
theorem qx_meth {pl : Sem Bool} {C : Addr} {m : Str} {k : Nat} {ps : List Str} {sp : Sp} {o : Expr} {apos : Pos} {es : List Expr} {ta : TE} {tl : TA} (hq : QE X.nox o ta) (c : Cls X.K C) (D : MDefX X.prog X.w X.K X.mg X.base C m k ps sp) (hr : Room k X.A) (ha : QA X.nox (e :: es) tl)
    (hst : starEach (e :: es) X.env = (false, eval e X.env) :: starEach es X.env := by rfl) (hpl : (backTo pos (starEach es X.env)).any (·.1) = false := by rfl)
    (ht : eval (.Call (.Attribute o m apos) (e :: es) [] pos) X.env = (do
      let ov ← eval o X.env
      standAt apos.atName
      let (f, first) ← holding [ov] (getMethod ov m pl)
      callWith pos f first (backTo pos (starEach (e :: es) X.env)) (backToKw pos (keywordEach [] X.env))) := by rfl) :
    QXe X (.Call (.Attribute o m apos) (e :: es) [] pos) (tMethX C m sp ta tl) := ⟨fun pins s σ H Q E hx I h => by
  obtain ⟨f, fd, hm, hb, F⟩ := D.ex
  refine PySem.W.methodCall_KW (pl := pl) (thn (hq.h.nox pins s σ H _ I h) fun u s1 ⟨x, H1, I1, rx, a, dx, fs, ex, ea, l, q⟩ => ?_) ht
  subst ex
  obtain rfl : u = Value.ref a := rx
  refine getmeth_ok I1 ea c hm l ?_
  refine PySem.W.callWith_K (first := [.ref a]) (h₀ := X.base) I.ok.mod.kin hm.kp (wpAny_mono (ha.h pos pins s1 σ H1 _ (I1.wish _) q) (fun us s2 ⟨vs, H2, I2, r, q2⟩ => ⟨I2.unwish.kIn, ?_⟩) fun _ _ z => False.elim z) hst hpl
  exact run_fnX (us := .ref a :: us) (vs := .ref a :: vs) F hr hb hx I2.unwish (.cons rfl r) q2⟩
end
/-! ### raise -/
/-- a class of the text that is an exception, its __init__ the built-in one -/
theorem own_obj {K : PySem.W.Frag} {h : Heap} {C : Addr} {bmB : List Value} {newId : String} (X : K.In h) (q : PySem.W.excIn K C bmB newId = true) :
    ∃ bm N nm qn bs hdct sn sub ab col dd k0 k1 k2 k3 k5 mN, h.get? C = some (excClassObj nm qn C N bs bm hdct sn sub ab col dd k0 k1 k2 k3 k5 newId) ∧ h.Ns N mN ∧ mN "__init__" = none ∧ OwnTail h bmB bm := by
  unfold PySem.W.excIn at q
  split at q
  · rename_i dd cd sl ho
    split at q
    · rename_i C' bm k0 k1 k2 k3 n k5 hm hs
      obtain ⟨nm, bs, mro, ns, qn, hd, sn, sub, ab, col, del⟩ := cd
      simp only [Bool.and_eq_true, beq_iff_eq, Bool.not_eq_true'] at q hm
      obtain ⟨⟨⟨⟨⟨z1, z2⟩, z3⟩, z4⟩, z5⟩, z6⟩ := q
      subst z1; subst z2; subst hm; subst z3
      obtain ⟨l⟩ := sl
      have hs : l = _ := hs
      subst hs
      exact ⟨bm, ns, nm, qn, bs, hd, sn, sub, ab, col, dd, k0, k1, k2, k3, k5, _, X _ _ ho, .of_isNs (PySem.W.isNs_of_in X z5), PySem.W.nsMap_none_of_in X z5 z6, PySem.W.tail_of_in X z4⟩
    · cases q
  · cases q
structure ExcC (K : PySem.W.Frag) (mg : Str → Option Value) (x : Str) (C : Addr) : Prop where
  b : mg x = some (.ref C)
  o : PySem.W.excIn K C [.type "ValueError", .type "Exception", .type "BaseException", .type "object"] "ValueError.__new__" = true
def tRaise (x : Str) (t : TA) : TS := fun D σ H => t σ H fun vs H1 => vs.length ≤ sizeLine ∧ D.bk (some (.str x) :: σ) H1
theorem qx_raise {X : Cx} {x : Str} {C : Addr} {np cpos pos : Pos} {e : Expr} {es : List Expr} {ta : TA} (hc : X.calm = true) (O : ExcC X.K X.mg x C) (ha : QA X.nox (e :: es) ta) (hg : Gl X x := by rfl)
    (hdb : (x == ("__debug__" : Str)) = false := by decide) (he : starEach (e :: es) X.env = (false, eval e X.env) :: starEach es X.env := by rfl) (hpl : (backTo cpos (starEach es X.env)).any (·.1) = false := by rfl) :
    QX True X (.Raise (some (.Call (.Name x np) (e :: es) [] cpos)) none pos) (tRaise x ta) := ⟨fun pins s σ H D k I h => by
  obtain ⟨bm, N, nm, qn, bs, hdct, sn, sub, ab, col, dd, k0, k1, k2, k3, k5, mN, hC, hN, hni, T⟩ := own_obj I.mod.kin O.o
  have hh := I.ok.hd hc
  refine wpAny_Raise_call_subU (C := C) (nm := nm) (q := qn) (N := N) (bs := bs) (bm := bm) (hdct := hdct) (sn := sn) (sub := sub) (ab := ab) (col := col) (dd := dd) (k0 := k0) (k1 := k1) (k2 := k2) (k3 := k3) (k5 := k5)
    PySem.F.excBase_ValueError (by decide) PySem.F.excBase_ValueError (mN := mN) (T.hasType PySem.F.excBase_ValueError.hasBase) hh (by rw [he]; show (false || (backTo cpos (starEach es X.env)).any (·.1)) = false; rw [hpl]; rfl) hni (ld_glob I hg O.b ⟨rfl, ?_⟩ hdb)
  have h1 := ha.h cpos pins s σ H _ (I.wish _) h
  rw [he] at h1 ⊢
  refine Calls.evalArgs_plain (wpAny_mono h1 (fun vs s₂ ⟨xs, H1, I1, r, hl, q⟩ => ?_) fun _ _ z => False.elim z)
  have I2 := I1.unwish
  refine ⟨rfl, by rw [← r.length]; exact hl, I2.bk _ _ hC, hN.keeps I2.bk, T.keeps I2.bk, fun h' e' hm => k.2 trivial pins σ H1 s₂ e' _ _ h' I2 hm ⟨x, O.b, q⟩⟩⟩
end L2

namespace L2
open PySem PySem.Spec PyProof.Rows
/-! ### a def that may raise; try and except -/
section
variable {P : Program} {w : World} {K : PySem.W.Frag} {mg : Str → Option Value} {base : Heap}
def bkX (n : Nat) (mg : Str → Option Value) (E : XK) : St → Hp → Prop := fun τ H' => ∃ nm σ', τ = some (.str nm) :: σ' ∧ σ'.length = n ∧ ∀ C, mg nm = some C → E C none H'
theorem bkX.ex {n : Nat} {E : XK} {Q : VK} {nx : St → Hp → Prop} {σ : St} {C : Value} {H' : Hp} {d : Option Addr} (h : EX mg { nx := nx, rt := Q, bk := bkX n mg E } σ C d H') : E C none H' := by
  obtain ⟨nm, hm, nm', σ', e, _, k⟩ := h
  simp only [List.cons.injEq, Option.some.injEq, V.str.injEq] at e
  exact k C (e.1 ▸ hm)
theorem Fun.okX {x qual : Str} {st : Stmt} {f : Addr} {fd : FuncData} {N ps : List Str} {k : Nat} {sp : Sp} (F : Fun K x qual st f fd) (S : FnScope N ps (defScope st)) (len : ∀ vs H Q E, sp vs H Q E → vs.length = ps.length)
    (hbody : ∀ (cdv : Value) (A : Around) (outer : List Env) (s : Shared) (H : Hp) (vs : List V) (Q : VK) (E : XK), Room k (A.deeper (envOfC qual (defScope st) s.heap.objs.size f cdv)) → sp vs H Q E →
      ∃ t, QXs True (cxOf (CXe P w) P w K mg base N qual (defScope st) f cdv A outer s H E) (defBody st) t ∧ t { nx := fun _ H' => Q .non H', rt := Q, bk := bkX N.length mg E } (start N vs) H) : FnOk P w K mg base (CXe P w) (k + 1) f fd ps sp := by
  obtain ⟨oc, od, kV, doc, pm, an, cdv, ct, osl, rfl, lk, hcd⟩ := F.ex
  refine fn_of lk hcd S len fun A outer s H vs Q E hr hsp => ?_
  obtain ⟨t, h, q⟩ := hbody cdv A outer s H vs Q E hr hsp
  refine ⟨fun D σ H1 => D = { nx := fun _ H' => Q .non H', rt := Q } ∧ t { nx := fun _ H' => Q .non H', rt := Q, bk := bkX N.length mg E } σ H1, fun pins s1 σ H1 D I hd => ?_, rfl, q⟩
  obtain ⟨rfl, hd⟩ := hd
  have Y : Body (cxOf (CXe P w) P w K mg base N qual (defScope st) f cdv A outer s H E) outer := ⟨rfl, rfl, rfl, rfl⟩
  refine wpAny_mono (h.h pins s1 σ H1 _ ⟨fun σ pins H s e s' I hx => ?_, fun _ pins σ H s e C args h1 I hm hx => ?_⟩ I hd) (fun fl s' z => ?_) fun _ _ z => z
  · exact on_leaves Y I I.ok.frames (hx.mono fun C H' z => bkX.ex z)
  · exact made_leaves Y I I.ok.frames hm (bkX.ex hx)
  · cases fl with
    | next => exact z
    | ret u => exact z
    | cont => exact z
    | brk =>
      obtain ⟨σ', H', I', nm, σ'', e, hl, _⟩ := z
      have := I'.len
      rw [e, List.length_cons, hl] at this
      exact absurd this (by show N.length + 1 ≠ N.length; omega)
end
section
variable {P : Program} {w : World} {outer : List Env} {H H' : Hp} {s s' : Shared} {a : Addr} {C : Value}
theorem Fli.un (F : Fli P w outer H s a C H' s') : Un (frs outer) [] H H' s.heap s'.heap ∧ HOk P w H' s'.heap := by
  obtain ⟨B, a0, fl, hok, nb, kp, th⟩ := F.fly
  refine ⟨⟨fun b o q n hb _ => fl.1 b o (kp b o q n hb), fun b o q n hb _ => F.up b o q n hb, fun b o q n _ => F.free b o q n, fun b o q _ => ?_, F.tups, F.frzs, F.tbls⟩, hok.kept fl.1⟩
  cases hb : H b with
  | some u =>
    obtain ⟨o', e⟩ := th b o q (by rw [hb]; simp)
    exact ⟨o', fl.1 b o' e⟩
  | none =>
    by_cases hf : b ∈ frs outer
    · obtain ⟨sl, e⟩ := F.up b o q hb hf
      exact ⟨_, e⟩
    · exact ⟨o, fl.1 b o (kp b o q hb hf)⟩
theorem Fli.inv {X : Cx} {pins : List (Addr × Obj)} {σ : St} (I : Inv X pins σ H s) (F : Fli X.prog X.w X.stack H s a C H' s') : Inv X pins σ H' s' :=
  I.call' F.os F.un.1 F.un.2 F.bare (ch := []) fun b z => absurd z (by simp)
/-- the heap goes on, the flight is kept -/
theorem Fli.step (F : Fli P w outer H s a C H' s') : ∃ B a0, Heap.FlyingW B outer a C a0 s'.heap ∧ ∀ h', Heap.FlyingW B outer a C a0 h' → s'.heap.UpToSlots h' → Fli P w outer H s a C H' { s' with heap := h' } := by
  obtain ⟨B, a0, fl, hok, nb, kp, th⟩ := F.fly
  refine ⟨B, a0, fl, fun h' fl' up => ⟨F.os, F.bare, ⟨B, a0, fl', hok, nb, kp, th⟩, fun b o q n hb => ?_, F.free, F.tups, F.frzs, F.tbls⟩⟩
  obtain ⟨sl, e⟩ := F.up b o q n hb
  obtain ⟨_, o', ho', hd⟩ := fl.2.2.1.mem (show b ∈ outer.filterMap (·.frame) from hb)
  rw [e] at ho'; cases ho'
  obtain ⟨sl2, e2⟩ := up b _ e hd
  exact ⟨sl2, e2⟩
theorem Fli.ty {M : Model} (F : Fli P w outer H s a C H' s') : PySem.W.Looks M s'.heap (typeOf (.ref a)) C := by
  obtain ⟨B, a0, fl, _⟩ := F.fly
  obtain ⟨ob, hob, hc⟩ := fl.there
  subst hc
  exact (PySem.W.Looks.ld hob).andThen .now
end
/-- within an except suite -/
abbrev Cx.caught (X : Cx) (a : Addr) : Cx := { X with A := X.A.mark (some (.ref a)), calm := false, xe := fun _ _ => False }
section
variable {X : Cx} {pins : List (Addr × Obj)} {σ : St} {H : Hp} {s : Shared} {a : Addr}
theorem Inv.caught (I : Inv X pins σ H s) (a : Addr) : Inv (X.caught a) pins σ H s :=
  ⟨⟨I.ok.mod, I.ok.kind, I.ok.glob, I.ok.blt, I.ok.above, I.ok.inj, I.ok.has, I.ok.cab, (fun z => nomatch z), I.ok.frames, I.ok.stk, I.ok.exf, I.ok.bs, I.ok.bsz, I.ok.noex, I.ok.exfs, I.ok.funs, I.ok.frf⟩, I.os, I.bare, I.base, I.loc, I.cell, I.free, I.freeC, I.pin, I.hok, I.len⟩
theorem Inv.back (ok : X.Ok) (I : Inv (X.caught a) pins σ H s) : Inv X pins σ H s := ⟨ok, I.os, I.bare, I.base, I.loc, I.cell, I.free, I.freeC, I.pin, I.hok, I.len⟩
/-- in a try's body: the pins are the context's -/
abbrev Cx.tried (X : Cx) (pins : List (Addr × Obj)) (xe : Value → Shared → Prop) : Cx := { X with pn := X.pn ++ pins, xe := xe }
theorem Inv.tried (I : Inv X pins σ H s) (xe : Value → Shared → Prop) : Inv (X.tried pins xe) [] σ H s :=
  ⟨⟨I.ok.mod, I.ok.kind, I.ok.glob, I.ok.blt, I.ok.above, I.ok.inj, I.ok.has, I.ok.cab, I.ok.hd, I.ok.frames, I.ok.stk, I.ok.exf, I.ok.bs, I.ok.bsz, I.ok.noex, I.ok.exfs, I.ok.funs, I.ok.frf⟩, I.os, I.bare, I.base, I.loc, I.cell, I.free, I.freeC, fun p hp => I.pin p (by simpa using hp), I.hok, I.len⟩
theorem Inv.untried {pins' : List (Addr × Obj)} {xe : Value → Shared → Prop} (ok : X.Ok) (I : Inv (X.tried pins xe) pins' σ H s) : Inv X pins σ H s :=
  ⟨ok, I.os, I.bare, I.base, I.loc, I.cell, I.free, I.freeC, fun p hp => I.pin p (List.mem_append_left _ hp), I.hok, I.len⟩
end
/-- the except clauses hs at an exception of the class C -/
structure QH (X : Cx) (hs : List ExceptHandler) (C : Value) (t : TS) : Prop where
  h : ∀ pins σ H1 s1 H' s a D, Inv X pins σ H1 s1 → Fli X.prog X.w X.stack H1 s1 a C H' s → t D σ H' → wpAny (model X.prog X.w) X.A (handleBy (.ref a) X.env hs) (SP X pins D) X.xe s
section
variable {X : Cx} {C Cx : Value} {x : Str} {p pos : Pos} {hs : List ExceptHandler} {t : TS}
theorem qh_miss {nmo : Option Str} {suite : List Stmt} (hm : X.mg x = some Cx) (he : PySem.W.exmOne X.K C Cx = some false) (hr : QH X hs C t) (hg : Gl X x := by rfl) (hdb : (x == ("__debug__" : Str)) = false := by decide) :
    QH X (.ExceptHandler (some (.Name x p)) nmo suite pos :: hs) C t := ⟨fun pins σ H1 s1 H' s a D I F h => by
  have J := F.inv I
  refine wpAny_handleBy_cons (codeAny_handlers_test (ld_glob (X := X.caught a) (J.caught a) hg hm ?_ hdb)) (by intro q; cases q)
  refine PySem.W.exm_one J.kIn F.ty he _ _ _ s (fun _ _ z => z) ?_
  exact hr.h pins σ H1 s1 H' s a D I F h⟩
theorem qh_hit {b0 : Stmt} {suite : List Stmt} (hm : X.mg x = some Cx) (he : PySem.W.exmOne X.K C Cx = some true) (hb : ∀ a, QSs (X.caught a) (b0 :: suite) t) (hg : Gl X x := by rfl) (hdb : (x == ("__debug__" : Str)) = false := by decide) :
    QH X (.ExceptHandler (some (.Name x p)) none (b0 :: suite) pos :: hs) C t := ⟨fun pins σ H1 s1 H' s a D I F h => by
  have J := F.inv I
  refine wpAny_handleBy_cons (codeAny_handlers_test (ld_glob (X := X.caught a) (J.caught a) hg hm ?_ hdb)) (by intro q; cases q)
  refine PySem.W.exm_one J.kIn F.ty he _ _ _ s (fun _ _ z => z) ?_
  show codeAny _ _ _ _ s
  refine codeAny_handlers_suite ?_
  obtain ⟨B, a0, fl, st⟩ := F.step
  refine lands_againW fl fun h' fl' up => ?_
  have J2 := (st h' fl' up).inv I
  refine wpAny_mono ((hb a).h pins _ σ H' D (J2.caught a) h) (fun f s2 q => ?_) fun _ _ z => False.elim z
  cases f with
  | next => obtain ⟨σ', H2, I2, q⟩ := q; exact ⟨σ', H2, I2.back I.ok, q⟩
  | brk => obtain ⟨σ', H2, I2, q⟩ := q; exact ⟨σ', H2, I2.back I.ok, q⟩
  | cont => obtain ⟨σ', H2, I2, q⟩ := q; exact ⟨σ', H2, I2.back I.ok, q⟩
  | ret u => obtain ⟨v, σ', H2, I2, r, q⟩ := q; exact ⟨v, σ', H2, I2.back I.ok, r, q⟩⟩
end
def tTry (n : Nat) (tb : TS) (l : List (Str × TS)) : TS := fun D σ H => tb { D with bk := fun τ H' => ∃ nm σ' t, τ = some (.str nm) :: σ' ∧ σ'.length = n ∧ l.lookup nm = some t ∧ t D σ' H' } σ H
theorem qs_try {X : Cx} {outer : List Env} {body : List Stmt} {h0 : ExceptHandler} {hs : List ExceptHandler} {pos : Pos} {tb : TS} {l : List (Str × TS)} (Y : Body X outer) (hb : ∀ pins xe, QXs False (X.tried pins xe) body tb)
    (hh : ∀ nm t C, l.lookup nm = some t → X.mg nm = some C → QH X (h0 :: hs) C t) : QS X (.Try body (h0 :: hs) [] [] pos) (tTry X.N.length tb l) := ⟨fun pins s σ H D I h => by
  refine wpAny_Try_except ?_
  refine wpAny_mono ((hb pins fun e s1 => wpAny (model X.prog X.w) X.A (noteFrame e X.env) (fun _ s₂ => wpAny (model X.prog X.w) X.A (setFlight e none) (fun _ s₃ => wpAny (model X.prog X.w) X.A (handleBy e X.env (h0 :: hs)) (SP X pins D) X.xe s₃) X.xe s₂) X.xe s1).h [] s σ H _ ⟨fun σ1 pins' H1 s1 e s' IY hx => ?_, fun z => z.elim⟩ (I.tried _) h) (fun f s1 q => ?_) fun _ _ z => z
  · obtain ⟨a, C, H', rfl, F, nm, hm, nm', σ', t, e, hl, ht, q⟩ := hx
    simp only [List.cons.injEq, Option.some.injEq, V.str.injEq] at e
    obtain ⟨rfl, rfl⟩ := e
    have I1 : Inv X pins σ1 H1 s1 := IY.untried I.ok
    have F : Fli X.prog X.w X.stack H1 s1 a C H' s' := F
    obtain ⟨B, a0, fl, st⟩ := F.step
    have hA : X.A.frames = some (X.env :: outer) := by rw [← Y.stk]; exact I.ok.frames
    rw [Y.stk] at fl
    refine wpAny_looks_onW hA Y.fr fl fun h1 held up1 => ?_
    refine wpAny_landsW held fun h2 fl2 up2 => ?_
    exact (hh nm t C ht hm).h pins σ1 H1 s1 H' _ a D I1 (st h2 (by rw [Y.stk]; exact fl2) (up1.trans up2)) q
  · cases f with
    | next => obtain ⟨σ', H2, I2, q⟩ := q; exact wpAny_execs_nil ⟨σ', H2, I2.untried I.ok, q⟩
    | cont => obtain ⟨σ', H2, I2, q⟩ := q; exact ⟨σ', H2, I2.untried I.ok, q⟩
    | ret u => obtain ⟨v, σ', H2, I2, r, q⟩ := q; exact ⟨v, σ', H2, I2.untried I.ok, r, q⟩
    | brk =>
      obtain ⟨σ', H2, I2, nm, σ'', t, e, hl, _⟩ := q
      have := I2.len
      rw [e, List.length_cons, hl] at this
      exact absurd this (by show X.N.length + 1 ≠ X.N.length; omega)⟩
end L2

namespace PySem
theorem Paired.of_get {α β : Type} {F : α → β → Prop} : ∀ {l : List α} {m : List β}, l.length = m.length → (∀ (i : Nat) x y, l[i]? = some x → m[i]? = some y → F x y) → Paired F l m
  | [], [], _, _ => .nil
  | [], _ :: _, h, _ => by simp at h
  | _ :: _, [], h, _ => by simp at h
  | x :: l, y :: m, h, r => .cons (r 0 x y rfl rfl) (Paired.of_get (by simpa using h) fun i a b ha hb => r (i + 1) a b (by simpa using ha) (by simpa using hb))
theorem Paired.len {α β : Type} {F : α → β → Prop} : ∀ {l : List α} {m : List β}, Paired F l m → l.length = m.length
  | _, _, .nil => rfl
  | _, _, .cons _ t => by rw [List.length_cons, List.length_cons, Paired.len t]
theorem Paired.get2 {α β : Type} {F : α → β → Prop} : ∀ {l : List α} {m : List β} {i : Nat} {x : α} {y : β}, Paired F l m → l[i]? = some x → m[i]? = some y → F x y
  | _, _, _, _, _, .nil, h, _ => by simp at h
  | _, _, 0, _, _, .cons r _, h, k => by simp at h k; subst h k; exact r
  | _, _, i + 1, _, _, .cons _ t, h, k => Paired.get2 (i := i) t (by simpa using h) (by simpa using k)
theorem Paired.getR {α β : Type} {F : α → β → Prop} {l : List α} {m : List β} {i : Nat} {y : β} (h : Paired F l m) (e : m[i]? = some y) : ∃ x, l[i]? = some x ∧ F x y := by
  have hl := h.len
  have hi := (List.getElem?_eq_some_iff.mp e).1
  have hx : l[i]? = some (l[i]'(by omega)) := List.getElem?_eq_getElem (by omega)
  exact ⟨_, hx, h.get2 hx e⟩
theorem Paired.getL {α β : Type} {F : α → β → Prop} {l : List α} {m : List β} {i : Nat} {x : α} (h : Paired F l m) (e : l[i]? = some x) : ∃ y, m[i]? = some y ∧ F x y := by
  have hl := h.len
  have hi := (List.getElem?_eq_some_iff.mp e).1
  have hx : m[i]? = some (m[i]'(by omega)) := List.getElem?_eq_getElem (by omega)
  exact ⟨_, hx, h.get2 e hx⟩
theorem Paired.app {α β : Type} {F : α → β → Prop} : ∀ {l l' : List α} {m m' : List β}, Paired F l m → Paired F l' m' → Paired F (l ++ l') (m ++ m')
  | _, _, _, _, .nil, h => h
  | _, _, _, _, .cons r t, h => .cons r (Paired.app t h)
theorem Paired.put {α β : Type} {F : α → β → Prop} {x : α} {y : β} (r : F x y) : ∀ {l : List α} {m : List β} (i : Nat), Paired F l m → Paired F (l.set i x) (m.set i y)
  | _, _, _, .nil => .nil
  | _, _, 0, .cons _ t => .cons r t
  | _, _, i + 1, .cons q t => .cons q (Paired.put r i t)
theorem Paired.tk {α β : Type} {F : α → β → Prop} : ∀ {l : List α} {m : List β} (n : Nat), Paired F l m → Paired F (l.take n) (m.take n)
  | _, _, 0, _ => .nil
  | _, _, _ + 1, .nil => .nil
  | _, _, n + 1, .cons r t => .cons r (Paired.tk n t)
theorem Paired.dr {α β : Type} {F : α → β → Prop} : ∀ {l : List α} {m : List β} (n : Nat), Paired F l m → Paired F (l.drop n) (m.drop n)
  | _, _, 0, r => r
  | _, _, _ + 1, .nil => .nil
  | _, _, n + 1, .cons _ t => Paired.dr n t
theorem Paired.mapR {α β γ : Type} {F : α → β → Prop} {G : α → γ → Prop} {f : β → γ} (h : ∀ a b, F a b → G a (f b)) : ∀ {l : List α} {m : List β}, Paired F l m → Paired G l (m.map f)
  | _, _, .nil => .nil
  | _, _, .cons r t => .cons (h _ _ r) (Paired.mapR h t)
theorem Paired.unmapR {α β γ : Type} {F : α → β → Prop} {G : α → γ → Prop} {f : β → γ} (h : ∀ a b, G a (f b) → F a b) : ∀ {m : List β} {l : List α}, Paired G l (m.map f) → Paired F l m
  | [], _, .nil => .nil
  | _ :: m, _, .cons r t => .cons (h _ _ r) (Paired.unmapR h (m := m) t)
end PySem
namespace L2
open PySem PySem.Spec PyProof.Rows
/-! ### trees, things that change, and how they lie in the heap -/
/-- what never changes, whole -/
inductive T where
  | non | bl (b : Bool) | int (i : Int) | str (x : Str) | tup (xs : List T) | lst (xs : List T)
/-- a tree, or the name of a thing that changes -/
inductive U where
  | p (t : T) | m (k : Nat)
inductive MO where
  | lst (us : List U) | tup (us : List U) | ins (C : Addr) (fs : List (Str × U)) | dK (kvs : List (Key × U))
abbrev MM := List MO
abbrev UEnv := List (Option U)
inductive RepT (A : Addr → Prop) (H : Hp) : V → T → Prop
  | non : RepT A H .non .non
  | bl (b : Bool) : RepT A H (.bl b) (.bl b)
  | int (i : Int) : RepT A H (.int i) (.int i)
  | str (x : Str) : RepT A H (.str x) (.str x)
  | tup {p : Addr} {vs : List V} {ts : List T} (na : ¬ A p) (e : H p = some (.tup vs)) (l : vs.length = ts.length) (r : ∀ (i : Nat) v t, vs[i]? = some v → ts[i]? = some t → RepT A H v t) : RepT A H (.ref p) (.tup ts)
  | lst {p : Addr} {vs : List V} {ts : List T} (na : ¬ A p) (e : H p = some (.lst vs)) (l : vs.length = ts.length) (r : ∀ (i : Nat) v t, vs[i]? = some v → ts[i]? = some t → RepT A H v t) : RepT A H (.ref p) (.lst ts)
section
variable {A A' : Addr → Prop} {H H' : Hp} {v : V} {t : T} {ι ι' : List Addr} {M M' : MM} {u : U} {σ : St} {ρ : UEnv}
abbrev RepTs (A : Addr → Prop) (H : Hp) : List V → List T → Prop := Paired (RepT A H)
theorem RepT.tupP {p : Addr} {vs : List V} {ts : List T} (na : ¬ A p) (e : H p = some (.tup vs)) (r : RepTs A H vs ts) : RepT A H (.ref p) (.tup ts) := .tup na e r.len fun i v t h k => r.get2 h k
theorem RepT.lstP {p : Addr} {vs : List V} {ts : List T} (na : ¬ A p) (e : H p = some (.lst vs)) (r : RepTs A H vs ts) : RepT A H (.ref p) (.lst ts) := .lst na e r.len fun i v t h k => r.get2 h k
theorem RepT.mono (h : ∀ x o, ¬ A x → H x = some o → H' x = some o ∧ ¬ A' x) (r : RepT A H v t) : RepT A' H' v t := by
  induction r with
  | non => exact .non
  | bl b => exact .bl b
  | int i => exact .int i
  | str x => exact .str x
  | tup na e l r ih => exact .tup (h _ _ na e).2 (h _ _ na e).1 l ih
  | lst na e l r ih => exact .lst (h _ _ na e).2 (h _ _ na e).1 l ih
theorem RepT.tup_inv {ts : List T} (r : RepT A H v (.tup ts)) : ∃ p vs, v = .ref p ∧ ¬ A p ∧ H p = some (.tup vs) ∧ RepTs A H vs ts := by
  cases r with
  | tup na e l r => exact ⟨_, _, rfl, na, e, Paired.of_get l r⟩
theorem RepT.lst_inv {ts : List T} (r : RepT A H v (.lst ts)) : ∃ p vs, v = .ref p ∧ ¬ A p ∧ H p = some (.lst vs) ∧ RepTs A H vs ts := by
  cases r with
  | lst na e l r => exact ⟨_, _, rfl, na, e, Paired.of_get l r⟩
def Av (A : Addr → Prop) (ι : List Addr) : Addr → Prop := fun x => A x ∨ x ∈ ι
inductive RepU (A : Addr → Prop) (ι : List Addr) (H : Hp) : V → U → Prop
  | p {v : V} {t : T} (r : RepT (Av A ι) H v t) : RepU A ι H v (.p t)
  | m {k : Nat} {a : Addr} (e : ι[k]? = some a) : RepU A ι H (.ref a) (.m k)
abbrev RepUs (A : Addr → Prop) (ι : List Addr) (H : Hp) : List V → List U → Prop := Paired (RepU A ι H)
def ObjR (A : Addr → Prop) (ι : List Addr) (H : Hp) (a : Addr) : MO → Prop
  | .lst us => ∃ vs, H a = some (.lst vs) ∧ RepUs A ι H vs us
  | .tup us => ∃ vs, H a = some (.tup vs) ∧ RepUs A ι H vs us
  | .ins C fs => ∃ dx gs, H a = some (.ins C dx gs) ∧ H dx = some (.own a) ∧ dx ∉ ι ∧ Paired (fun (g : Str × V) (f : Str × U) => g.1 = f.1 ∧ RepU A ι H g.2 f.2) gs fs
  | .dK kvs => ∃ gs, H a = some (.dK gs) ∧ Paired (fun (g : Key × V) (f : Key × U) => g.1 = f.1 ∧ RepU A ι H g.2 f.2) gs kvs
structure Wd (A : Addr → Prop) (ι : List Addr) (H : Hp) (M : MM) : Prop where
  nd : ι.Nodup
  len : ι.length = M.length
  dom : ∀ x, A x → H x ≠ none
  na : ∀ x ∈ ι, ¬ A x
  obj : ∀ (k : Nat) a o, ι[k]? = some a → M[k]? = some o → ObjR A ι H a o
structure Le (ι : List Addr) (H : Hp) (ι' : List Addr) (H' : Hp) : Prop where
  ext : ∃ n, ι' = ι ++ n ∧ ∀ x ∈ n, H x = none
  fr : ∀ x o, H x = some o → x ∉ ι → H' x = some o
  al : ∀ x, H x ≠ none → H' x ≠ none
theorem Le.refl (ι : List Addr) (H : Hp) : Le ι H ι H := ⟨⟨[], by simp, by simp⟩, fun _ _ h _ => h, fun _ h => h⟩
theorem Le.trans {ι2 : List Addr} {H2 : Hp} (a : Le ι H ι' H') (b : Le ι' H' ι2 H2) : Le ι H ι2 H2 := by
  obtain ⟨n, rfl, hn⟩ := a.ext
  obtain ⟨m, rfl, hm⟩ := b.ext
  have key : ∀ x, H x ≠ none → x ∉ ι → x ∉ ι ++ n := fun x hx h z => by
    rcases List.mem_append.mp z with z | z
    · exact h z
    · exact hx (hn x z)
  refine ⟨⟨n ++ m, by rw [List.append_assoc], fun x hx => ?_⟩, fun x o e h => b.fr x o (a.fr x o e h) (key x (by rw [e]; simp) h), fun x h => b.al x (a.al x h)⟩
  rcases List.mem_append.mp hx with z | z
  · exact hn x z
  · cases q : H x with
    | none => rfl
    | some o => exact absurd (hm x z) (a.al x (by rw [q]; simp))
theorem Le.av (l : Le ι H ι' H') {x : Addr} {o : HO} (h : ¬ Av A ι x) (e : H x = some o) : H' x = some o ∧ ¬ Av A ι' x := by
  obtain ⟨n, rfl, hn⟩ := l.ext
  refine ⟨l.fr x o e fun z => h (.inr z), fun z => ?_⟩
  rcases z with z | z
  · exact h (.inl z)
  · rcases List.mem_append.mp z with z | z
    · exact h (.inr z)
    · rw [hn x z] at e; cases e
theorem RepT.le (l : Le ι H ι' H') (r : RepT (Av A ι) H v t) : RepT (Av A ι') H' v t := r.mono fun _ _ h e => l.av h e
theorem RepU.le (l : Le ι H ι' H') (r : RepU A ι H v u) : RepU A ι' H' v u := by
  cases r with
  | p r => exact .p (r.le l)
  | m e =>
    obtain ⟨n, rfl, _⟩ := l.ext
    exact .m (by rw [List.getElem?_append_left (List.getElem?_eq_some_iff.mp e).1]; exact e)
theorem RepUs.le {vs : List V} {us : List U} (l : Le ι H ι' H') (r : RepUs A ι H vs us) : RepUs A ι' H' vs us := Paired.mapP r fun _ _ q => q.le l
theorem ObjR.some {a : Addr} {o : MO} (r : ObjR A ι H a o) : ∃ h, H a = some h := by
  cases o with
  | lst => obtain ⟨vs, e, _⟩ := r; exact ⟨_, e⟩
  | tup => obtain ⟨vs, e, _⟩ := r; exact ⟨_, e⟩
  | ins => obtain ⟨_, _, e, _⟩ := r; exact ⟨_, e⟩
  | dK => obtain ⟨_, e, _⟩ := r; exact ⟨_, e⟩
theorem ObjR.le' {a : Addr} {o : MO} (l : Le ι H ι' H') (ea : H' a = H a) (eo : ∀ x, H x = Option.some (.own a) → H' x = H x) (r : ObjR A ι H a o) : ObjR A ι' H' a o := by
  cases o with
  | lst => obtain ⟨vs, e, r⟩ := r; exact ⟨vs, by rw [ea]; exact e, Paired.mapP r fun _ _ q => q.le l⟩
  | tup => obtain ⟨vs, e, r⟩ := r; exact ⟨vs, by rw [ea]; exact e, Paired.mapP r fun _ _ q => q.le l⟩
  | ins =>
    obtain ⟨dx, gs, e, ed, nd, r⟩ := r
    obtain ⟨n, rfl, hn⟩ := l.ext
    refine ⟨dx, gs, by rw [ea]; exact e, by rw [eo dx ed]; exact ed, fun z => ?_, Paired.mapP r fun _ _ q => ⟨q.1, q.2.le l⟩⟩
    rcases List.mem_append.mp z with z | z
    · exact nd z
    · rw [hn dx z] at ed; cases ed
  | dK => obtain ⟨gs, e, r⟩ := r; exact ⟨gs, by rw [ea]; exact e, Paired.mapP r fun _ _ q => ⟨q.1, q.2.le l⟩⟩
theorem Wd.al (w : Wd A ι H M) {k : Nat} {a : Addr} (e : ι[k]? = some a) : ∃ o, M[k]? = some o ∧ ObjR A ι H a o := by
  have h := (List.getElem?_eq_some_iff.mp e).1
  have e2 : M[k]? = some (M[k]'(by rw [← w.len]; exact h)) := List.getElem?_eq_getElem _
  exact ⟨_, e2, w.obj k a _ e e2⟩
theorem Wd.at (w : Wd A ι H M) {k : Nat} {o : MO} (e : M[k]? = some o) : ∃ a, ι[k]? = some a ∧ ObjR A ι H a o := by
  have h := (List.getElem?_eq_some_iff.mp e).1
  have e2 : ι[k]? = some (ι[k]'(by rw [w.len]; exact h)) := List.getElem?_eq_getElem _
  exact ⟨_, e2, w.obj k _ _ e2 e⟩
theorem Wd.mem_some (w : Wd A ι H M) {a : Addr} (h : a ∈ ι) : ∃ o, H a = some o := by
  obtain ⟨k, e⟩ := List.getElem?_of_mem h
  obtain ⟨o, _, r⟩ := w.al e
  exact r.some
theorem Wd.not_own (w : Wd A ι H M) {a x : Addr} (h : a ∈ ι) : H a ≠ some (.own x) := fun z => by
  obtain ⟨k, e⟩ := List.getElem?_of_mem h
  obtain ⟨o, _, r⟩ := w.al e
  cases o with
  | lst => obtain ⟨vs, e, _⟩ := r; rw [z] at e; cases e
  | tup => obtain ⟨vs, e, _⟩ := r; rw [z] at e; cases e
  | ins => obtain ⟨_, _, e, _⟩ := r; rw [z] at e; cases e
  | dK => obtain ⟨_, e, _⟩ := r; rw [z] at e; cases e
theorem Le.fresh {p : Addr} {o : HO} (h : H p = none) : Le ι H ι (upd H p o) := ⟨⟨[], by simp, by simp⟩, fun x o' e _ => upd_old h e, fun x e => by
  by_cases z : x = p
  · subst z; rw [upd_same]; simp
  · rw [upd_ne z]; exact e⟩
theorem Le.push {p : Addr} {o : HO} (h : H p = none) : Le ι H (ι ++ [p]) (upd H p o) := ⟨⟨[p], rfl, fun x hx => by rw [List.mem_singleton.mp hx]; exact h⟩, (Le.fresh (ι := ι) h).fr, (Le.fresh (ι := ι) h).al⟩
theorem Le.put {p : Addr} {o : HO} (h : p ∈ ι) : Le ι H ι (upd H p o) := ⟨⟨[], by simp, by simp⟩, fun x o' e n => by rw [upd_ne (fun z => n (by rw [z]; exact h))]; exact e, fun x e => by
  by_cases z : x = p
  · subst z; rw [upd_same]; simp
  · rw [upd_ne z]; exact e⟩
theorem Wd.fresh (w : Wd A ι H M) {p : Addr} {o : HO} (h : H p = none) : Wd A ι (upd H p o) M :=
  ⟨w.nd, w.len, fun x hx => (Le.fresh (ι := ι) h).al x (w.dom x hx), w.na, fun k a ob e1 e2 => (w.obj k a ob e1 e2).le' (.fresh h) (upd_ne fun z => by
    obtain ⟨q, hq⟩ := w.mem_some (List.mem_of_getElem? e1)
    rw [z, h] at hq; cases hq) fun x ex => upd_ne fun z => by rw [z, h] at ex; cases ex⟩
theorem Wd.nin (w : Wd A ι H M) {p : Addr} (h : H p = none) : p ∉ ι := fun z => by
  obtain ⟨q, hq⟩ := w.mem_some z
  rw [h] at hq; cases hq
theorem Wd.nA (w : Wd A ι H M) {p : Addr} (h : H p = none) : ¬ Av A ι p := fun z => z.elim (fun z => w.dom p z h) (w.nin h)
theorem Wd.push (w : Wd A ι H M) {p : Addr} {o : HO} {mo : MO} (h : H p = none) (new : ObjR A (ι ++ [p]) (upd H p o) p mo) : Wd A (ι ++ [p]) (upd H p o) (M ++ [mo]) := by
  have np := w.nin h
  refine ⟨List.nodup_append.mpr ⟨w.nd, by simp, fun a ha b hb => ?_⟩, by simp [w.len], fun x hx => (Le.fresh (ι := ι) h).al x (w.dom x hx), fun x hx => ?_, fun k a ob e1 e2 => ?_⟩
  · rw [List.mem_singleton.mp hb]; exact fun z => np (by rw [← z]; exact ha)
  · rcases List.mem_append.mp hx with z | z
    · exact w.na x z
    · rw [List.mem_singleton.mp z]; exact fun z => w.dom p z h
  · by_cases hk : k < ι.length
    · rw [List.getElem?_append_left hk] at e1
      rw [List.getElem?_append_left (by rw [← w.len]; exact hk)] at e2
      exact (w.obj k a ob e1 e2).le' (.push h) (upd_ne fun z => np (by rw [← z]; exact List.mem_of_getElem? e1)) fun x ex => upd_ne fun z => by rw [z, h] at ex; cases ex
    · have hk2 := (List.getElem?_eq_some_iff.mp e1).1
      rw [List.length_append, List.length_singleton] at hk2
      have : k = ι.length := by omega
      subst this
      rw [List.getElem?_append_right (Nat.le_refl _), Nat.sub_self] at e1
      rw [w.len, List.getElem?_append_right (Nat.le_refl _), Nat.sub_self] at e2
      simp at e1 e2
      subst e1 e2
      exact new
theorem Wd.put (w : Wd A ι H M) {k : Nat} {p : Addr} {o : HO} {mo : MO} (e : ι[k]? = some p) (new : ObjR A ι (upd H p o) p mo) : Wd A ι (upd H p o) (M.set k mo) := by
  have hp := List.mem_of_getElem? e
  refine ⟨w.nd, by rw [List.length_set]; exact w.len, fun x hx => (Le.put hp).al x (w.dom x hx), w.na, fun j a ob e1 e2 => ?_⟩
  by_cases hj : k = j
  · subst hj
    rw [e] at e1; cases e1
    rw [List.getElem?_set_self (by rw [← w.len]; exact (List.getElem?_eq_some_iff.mp e).1)] at e2
    cases e2
    exact new
  · rw [List.getElem?_set_ne hj] at e2
    have na : a ≠ p := fun z => by
      subst z
      have h1 := List.getElem?_eq_some_iff.mp e
      have h2 := List.getElem?_eq_some_iff.mp e1
      exact hj ((List.getElem_inj w.nd).mp (h1.2.trans h2.2.symm))
    exact (w.obj j a ob e1 e2).le' (.put hp) (upd_ne na) fun x ex => upd_ne fun z => by
      rw [z] at ex; exact w.not_own hp ex
/-- how names lie -/
def EnvR (A : Addr → Prop) (ι : List Addr) (H : Hp) : St → UEnv → Prop := Paired fun (s : Option V) (r : Option U) => ∀ u, r = some u → ∃ v, s = some v ∧ RepU A ι H v u
theorem EnvR.le (l : Le ι H ι' H') (r : EnvR A ι H σ ρ) : EnvR A ι' H' σ ρ := Paired.mapP r fun _ _ q u e => by
  obtain ⟨v, h1, h2⟩ := q u e
  exact ⟨v, h1, h2.le l⟩
theorem EnvR.get (r : EnvR A ι H σ ρ) {i : Nat} {u : U} (e : ρ[i]? = some (some u)) : ∃ v, σ[i]? = some (some v) ∧ RepU A ι H v u := by
  obtain ⟨s, h1, h2⟩ := Paired.getR r e
  obtain ⟨v, rfl, h3⟩ := h2 u rfl
  exact ⟨v, h1, h3⟩
theorem EnvR.put (r : EnvR A ι H σ ρ) (i : Nat) (q : RepU A ι H v u) : EnvR A ι H (σ.set i (some v)) (ρ.set i (some u)) := Paired.put (fun w e => by cases e; exact ⟨v, rfl, q⟩) i r
def maskU (bs : List Bool) (n : Nat) (ρ : UEnv) : UEnv := (bs.zip ρ).map (fun p => if p.1 then p.2 else none) ++ List.replicate n none
end
end L2

namespace L2
open PySem PySem.Spec PyProof.Rows
/-! ### readings over trees, and their links: expressions -/
abbrev UK := U → MM → Prop
abbrev UE := UEnv → MM → UK → Prop
abbrev UT := UEnv → MM → (Bool → MM → Prop) → Prop
abbrev UA := UEnv → MM → (List U → MM → Prop) → Prop
def LE (te : TE) (ue : UE) : Prop := ∀ (A : Addr → Prop) (ι : List Addr) (σ : St) (H : Hp) (ρ : UEnv) (M : MM) (Qu : UK) (Q : VK), Wd A ι H M → EnvR A ι H σ ρ → ue ρ M Qu →
  (∀ u M' ι' v H', Le ι H ι' H' → Wd A ι' H' M' → RepU A ι' H' v u → Qu u M' → Q v H') → te σ H Q
def LT (tt : TT) (ut : UT) : Prop := ∀ (A : Addr → Prop) (ι : List Addr) (σ : St) (H : Hp) (ρ : UEnv) (M : MM) (Qu : Bool → MM → Prop) (Q : Bool → Hp → Prop), Wd A ι H M → EnvR A ι H σ ρ → ut ρ M Qu →
  (∀ b M' ι' H', Le ι H ι' H' → Wd A ι' H' M' → Qu b M' → Q b H') → tt σ H Q
def LA (n : Nat) (ta : TA) (ua : UA) : Prop := ∀ (A : Addr → Prop) (ι : List Addr) (σ : St) (H : Hp) (ρ : UEnv) (M : MM) (Qu : List U → MM → Prop) (Q : List V → Hp → Prop), Wd A ι H M → EnvR A ι H σ ρ → ua ρ M Qu →
  (∀ us M' ι' vs H', Le ι H ι' H' → Wd A ι' H' M' → us.length = n → RepUs A ι' H' vs us → Qu us M' → Q vs H') → ta σ H Q
section
variable {te ta tb tc : TE} {ue ua ub uc : UE} {tt tt' : TT} {ut ut' : UT} {tl : TA} {ul : UA} {n : Nat}
def uVar (i : Nat) : UE := fun ρ M Q => ∃ u, ρ[i]? = some (some u) ∧ Q u M
theorem le_var (i : Nat) : LE (tVar i) (uVar i) := fun A ι σ H ρ M Qu Q w e ⟨u, h, q⟩ k => by
  obtain ⟨v, h1, h2⟩ := e.get h
  exact ⟨v, h1, k u M ι v H (.refl _ _) w h2 q⟩
inductive Sc : V → T → Prop
  | non : Sc .non .non
  | bl (b : Bool) : Sc (.bl b) (.bl b)
  | int (i : Int) : Sc (.int i) (.int i)
  | str (x : Str) : Sc (.str x) (.str x)
theorem Sc.rep {A : Addr → Prop} {H : Hp} {v : V} {t : T} (h : Sc v t) : RepT A H v t := by cases h <;> constructor
def uC (t : T) : UE := fun _ M Q => Q (.p t) M
theorem le_c {v : V} {t : T} (h : Sc v t) : LE (tC v) (uC t) := fun A ι σ H ρ M Qu Q w e q k => k _ M ι v H (.refl _ _) w (.p h.rep) q
def uNil : UA := fun _ M Q => Q [] M
def uCons (ua : UE) (ul : UA) : UA := fun ρ M Q => ua ρ M fun x M1 => ul ρ M1 fun xs M2 => Q (x :: xs) M2
theorem la_nil : LA 0 tNil uNil := fun A ι σ H ρ M Qu Q w e q k => k [] M ι [] H (.refl _ _) w rfl .nil q
theorem la_cons (ha : LE ta ua) (hl : LA n tl ul) : LA (n + 1) (tCons ta tl) (uCons ua ul) := fun A ι σ H ρ M Qu Q w e q k =>
  ha A ι σ H ρ M _ _ w e q fun x M1 ι1 v H1 l1 w1 r1 q1 => hl A ι1 σ H1 ρ M1 _ _ w1 (e.le l1) q1 fun xs M2 ι2 vs H2 l2 w2 hn r2 q2 =>
    k (x :: xs) M2 ι2 (v :: vs) H2 (l1.trans l2) w2 (by rw [List.length_cons, hn]) (.cons (r1.le l2) r2) q2
/-! snapshots -/
def pureUs : List U → Option (List T)
  | [] => some []
  | .p t :: r => (pureUs r).map (t :: ·)
  | .m _ :: _ => none
@[simp] theorem pureUs_map : ∀ ts : List T, pureUs (ts.map U.p) = some ts
  | [] => rfl
  | t :: r => by simp [pureUs, pureUs_map r]
theorem pureUs_eq : ∀ {us : List U} {ts : List T}, pureUs us = some ts → us = ts.map U.p
  | [], _, h => by simp [pureUs] at h; subst h; rfl
  | .p t :: r, ts, h => by
    simp [pureUs] at h
    obtain ⟨a, h1, rfl⟩ := h
    rw [List.map_cons, ← pureUs_eq h1]
  | .m _ :: _, _, h => by simp [pureUs] at h
def sn (M : MM) : U → Option T
  | .p t => some t
  | .m k => match M[k]? with
    | some (.lst us) => (pureUs us).map T.lst
    | some (.tup us) => (pureUs us).map T.tup
    | _ => none
def sns (M : MM) : List U → Option (List T)
  | [] => some []
  | u :: r => match sn M u, sns M r with
    | some t, some ts => some (t :: ts)
    | _, _ => none
inductive RepV (A : Addr → Prop) (H : Hp) : V → T → Prop
  | of {v : V} {t : T} (r : RepT A H v t) : RepV A H v t
  | lst {p : Addr} {vs : List V} {ts : List T} (e : H p = some (.lst vs)) (r : RepTs A H vs ts) : RepV A H (.ref p) (.lst ts)
  | tup {p : Addr} {vs : List V} {ts : List T} (e : H p = some (.tup vs)) (r : RepTs A H vs ts) : RepV A H (.ref p) (.tup ts)
variable {A : Addr → Prop} {H H' : Hp} {ι : List Addr} {M : MM} {v : V} {u : U} {t : T}
theorem RepV.lst_inv {ts : List T} (r : RepV A H v (.lst ts)) : ∃ p vs, v = .ref p ∧ H p = some (.lst vs) ∧ RepTs A H vs ts := by
  cases r with
  | of r => obtain ⟨p, vs, h1, _, h2, h3⟩ := r.lst_inv; exact ⟨p, vs, h1, h2, h3⟩
  | lst e r => exact ⟨_, _, rfl, e, r⟩
theorem RepV.tup_inv {ts : List T} (r : RepV A H v (.tup ts)) : ∃ p vs, v = .ref p ∧ H p = some (.tup vs) ∧ RepTs A H vs ts := by
  cases r with
  | of r => obtain ⟨p, vs, h1, _, h2, h3⟩ := r.tup_inv; exact ⟨p, vs, h1, h2, h3⟩
  | tup e r => exact ⟨_, _, rfl, e, r⟩
theorem RepV.int_inv {i : Int} (r : RepV A H v (.int i)) : v = .int i := by cases r with | of r => cases r; rfl
theorem RepV.bl_inv {i : Bool} (r : RepV A H v (.bl i)) : v = .bl i := by cases r with | of r => cases r; rfl
theorem RepV.str_inv {i : Str} (r : RepV A H v (.str i)) : v = .str i := by cases r with | of r => cases r; rfl
theorem RepV.non_inv (r : RepV A H v .non) : v = .non := by cases r with | of r => cases r; rfl
theorem RepUs.pures {vs : List V} {ts : List T} (r : RepUs A ι H vs (ts.map U.p)) : RepTs (Av A ι) H vs ts := Paired.unmapR (fun a b q => by cases q with | p r => exact r) r
theorem RepTs.ups {vs : List V} {ts : List T} (r : RepTs (Av A ι) H vs ts) : RepUs A ι H vs (ts.map U.p) := Paired.mapR (fun a b q => .p q) r
theorem RepU.sn (w : Wd A ι H M) (r : RepU A ι H v u) (e : sn M u = some t) : RepV (Av A ι) H v t := by
  cases r with
  | p r => simp [L2.sn] at e; subst e; exact .of r
  | m q =>
    obtain ⟨o, h1, h2⟩ := w.al q
    simp only [L2.sn, h1] at e
    cases o with
    | lst us =>
      simp at e
      obtain ⟨ts, e1, rfl⟩ := e
      obtain ⟨vs, h3, h4⟩ := h2
      rw [pureUs_eq e1] at h4
      exact .lst h3 h4.pures
    | tup us =>
      simp at e
      obtain ⟨ts, e1, rfl⟩ := e
      obtain ⟨vs, h3, h4⟩ := h2
      rw [pureUs_eq e1] at h4
      exact .tup h3 h4.pures
    | ins => simp at e
    | dK => simp at e
theorem RepUs.sns (w : Wd A ι H M) : ∀ {vs : List V} {us : List U} {ts : List T}, RepUs A ι H vs us → sns M us = some ts → Paired (RepV (Av A ι) H) vs ts
  | _, _, ts, .nil, e => by simp [L2.sns] at e; subst e; exact .nil
  | _, _, ts, .cons r q, e => by
    simp only [L2.sns] at e
    split at e
    · rename_i h1 h2
      simp at e; subst e
      exact .cons (r.sn w h1) (RepUs.sns w q h2)
    · cases e
/-- an operation on two snapshots -/
def OpL (r : R2) (s : T → T → (T → Prop) → Prop) : Prop := ∀ (A : Addr → Prop) (ι : List Addr) (H : Hp) (M : MM) (x y : V) (a b : T) (Qs : T → Prop) (Q : VK), Wd A ι H M → RepV (Av A ι) H x a → RepV (Av A ι) H y b → s a b Qs →
  (∀ t ι' v H', Le ι H ι' H' → Wd A ι' H' M → RepT (Av A ι') H' v t → Qs t → Q v H') → r x y H Q
def uOp (s : T → T → (T → Prop) → Prop) (ua ub : UE) : UE := fun ρ M Q => ua ρ M fun x M1 => ub ρ M1 fun y M2 => ∃ a b, sn M2 x = some a ∧ sn M2 y = some b ∧ s a b fun t => Q (.p t) M2
theorem le_op {r : R2} {s : T → T → (T → Prop) → Prop} (h : OpL r s) (ha : LE ta ua) (hb : LE tb ub) : LE (tOp r ta tb) (uOp s ua ub) := fun A ι σ H ρ M Qu Q w e q k =>
  ha A ι σ H ρ M _ _ w e q fun x M1 ι1 v H1 l1 w1 r1 q1 => hb A ι1 σ H1 ρ M1 _ _ w1 (e.le l1) q1 fun y M2 ι2 v2 H2 l2 w2 r2 ⟨a, b, e1, e2, q2⟩ =>
    h A ι2 H2 M2 v v2 a b _ Q w2 ((r1.le l2).sn w2 e1) (r2.sn w2 e2) q2 fun t ι3 z H3 l3 w3 r3 q3 => k _ M2 ι3 z H3 ((l1.trans l2).trans l3) w3 (.p r3) q3
def sI (C : Int → Int → Prop) (g : Int → Int → T) : T → T → (T → Prop) → Prop := fun a b Q => ∃ i j, a = .int i ∧ b = .int j ∧ C i j ∧ Q (g i j)
def sI0 (g : Int → Int → T) : T → T → (T → Prop) → Prop := fun a b Q => ∃ i j, a = .int i ∧ b = .int j ∧ Q (g i j)
theorem opl_I {C : Int → Int → Prop} {gv : Int → Int → V} {g : Int → Int → T} (hg : ∀ i j, Sc (gv i j) (g i j)) : OpL (rI C gv) (sI C g) := fun A ι H M x y a b Qs Q w r1 r2 ⟨i, j, ea, eb, c, q⟩ k => by
  subst ea eb
  exact ⟨i, j, r1.int_inv, r2.int_inv, c, k _ ι _ H (.refl _ _) w (hg i j).rep q⟩
theorem opl_I0 {gv : Int → Int → V} {g : Int → Int → T} (hg : ∀ i j, Sc (gv i j) (g i j)) : OpL (rI0 gv) (sI0 g) := fun A ι H M x y a b Qs Q w r1 r2 ⟨i, j, ea, eb, q⟩ k => by
  subst ea eb
  exact ⟨i, j, r1.int_inv, r2.int_inv, k _ ι _ H (.refl _ _) w (hg i j).rep q⟩
def vt : T → Option V
  | .non => some .non
  | .bl b => some (.bl b)
  | .int i => some (.int i)
  | .str x => some (.str x)
  | _ => none
theorem vt_rep {x : V} (e : vt t = some x) : Sc x t := by
  cases t <;> simp [vt] at e <;> subst e <;> constructor
theorem RepV.sc {x y : V} (r : RepV A H v t) (e : vt t = some x) : v = x := by
  cases vt_rep e with
  | non => exact r.non_inv
  | bl => exact r.bl_inv
  | int => exact r.int_inv
  | str => exact r.str_inv
def sEq (neg : Bool) : T → T → (T → Prop) → Prop := fun a b Q => ∃ x y, vt a = some x ∧ vt b = some y ∧ scal x y = true ∧ Q (.bl (if neg then !decide (x = y) else decide (x = y)))
theorem opl_eq : OpL rEq (sEq false) := fun A ι H M x y a b Qs Q w r1 r2 ⟨x', y', e1, e2, sc, q⟩ k => by
  cases r1.sc (y := .non) e1; cases r2.sc (y := .non) e2
  exact ⟨sc, k _ ι _ H (.refl _ _) w (.bl _) q⟩
theorem opl_ne : OpL rNe (sEq true) := fun A ι H M x y a b Qs Q w r1 r2 ⟨x', y', e1, e2, sc, q⟩ k => by
  cases r1.sc (y := .non) e1; cases r2.sc (y := .non) e2
  exact ⟨sc, k _ ι _ H (.refl _ _) w (.bl _) q⟩
def sStr : T → T → (T → Prop) → Prop := fun a b Q => ∃ i j, a = .str i ∧ b = .str j ∧ i.length + j.length ≤ sizeLine ∧ Q (.str (i ++ j))
def vts : List T → Option (List V)
  | [] => some []
  | t :: r => match vt t, vts r with
    | some x, some xs => some (x :: xs)
    | _, _ => none
theorem vts_rep : ∀ {vs : List V} {ts : List T} {xs : List V}, RepTs A H vs ts → vts ts = some xs → vs = xs ∧ xs.all flatV = true
  | _, _, xs, .nil, e => by simp [vts] at e; subst e; exact ⟨rfl, rfl⟩
  | _, _, xs, .cons r q, e => by
    simp only [vts] at e
    split at e
    · rename_i h1 h2
      simp at e; subst e
      obtain ⟨z1, z2⟩ := vts_rep q h2
      subst z1
      cases (RepV.of r).sc (y := .non) h1
      refine ⟨rfl, ?_⟩
      rw [List.all_cons, z2]
      cases vt_rep h1 <;> rfl
    · cases e
def seqT : T → Option (List T)
  | .lst ts => some ts
  | .tup ts => some ts
  | _ => none
def sIn (neg : Bool) : T → T → (T → Prop) → Prop := fun a b Q => ∃ x ts ys, vt a = some x ∧ seqT b = some ts ∧ vts ts = some ys ∧ Q (.bl (if neg then !inV x ys else inV x ys))
theorem opl_in {K : PySem.W.Frag} {neg : Bool} : OpL (rIn K neg) (sIn neg) := fun A ι H M x y a b Qs Q w r1 r2 ⟨x', ts, ys, e1, e2, e3, q⟩ k => by
  cases r1.sc (y := .non) e1
  have hf : flatV x = true := by cases vt_rep e1 <;> rfl
  cases b <;> simp [seqT] at e2
  · subst e2
    obtain ⟨p, vs, rfl, h, r⟩ := r2.tup_inv
    obtain ⟨rfl, z⟩ := vts_rep r e3
    exact ⟨p, vs, rfl, .inr (SqT.of h), hf, z, k _ ι _ H (.refl _ _) w (.bl _) q⟩
  · subst e2
    obtain ⟨p, vs, rfl, h, r⟩ := r2.lst_inv
    obtain ⟨rfl, z⟩ := vts_rep r e3
    exact ⟨p, vs, rfl, .inl (SqL.of h), hf, z, k _ ι _ H (.refl _ _) w (.bl _) q⟩
/-- a new tree -/
theorem fresh_lst (w : Wd A ι H M) {p : Addr} {vs : List V} {ts : List T} (h : H p = none) (r : RepTs (Av A ι) H vs ts) : RepT (Av A ι) (upd H p (.lst vs)) (.ref p) (.lst ts) :=
  .lstP (w.nA h) upd_same (Paired.mapP r fun _ _ q => q.le (.fresh h))
theorem fresh_tup (w : Wd A ι H M) {p : Addr} {vs : List V} {ts : List T} (h : H p = none) (r : RepTs (Av A ι) H vs ts) : RepT (Av A ι) (upd H p (.tup vs)) (.ref p) (.tup ts) :=
  .tupP (w.nA h) upd_same (Paired.mapP r fun _ _ q => q.le (.fresh h))
def sCat : T → T → (T → Prop) → Prop := fun a b Q => ∃ xs ys, a = .lst xs ∧ b = .lst ys ∧ xs.length + ys.length ≤ sizeLine ∧ Q (.lst (xs ++ ys))
theorem paired_rep {α β : Type} {F : α → β → Prop} {l : List α} {m : List β} (h : Paired F l m) : ∀ n : Nat, Paired F (List.replicate n l).flatten (List.replicate n m).flatten
  | 0 => .nil
  | n + 1 => by rw [List.replicate_succ, List.replicate_succ, List.flatten_cons, List.flatten_cons]; exact h.app (paired_rep h n)
/-! is None -/
def isNon : U → Bool
  | .p .non => true
  | _ => false
def uIsN (neg : Bool) (ua : UE) : UE := fun ρ M Q => ua ρ M fun x M1 => Q (.p (.bl (if neg then !isNon x else isNon x))) M1
/-! unary -/
def uNeg (ua : UE) : UE := fun ρ M Q => ua ρ M fun x M1 => ∃ i, x = .p (.int i) ∧ Q (.p (.int (-i))) M1
theorem le_neg (ha : LE ta ua) : LE (tUn (rU fun i => .int (-i)) ta) (uNeg ua) := fun A ι σ H ρ M Qu Q w e q k =>
  ha A ι σ H ρ M _ _ w e q fun x M1 ι1 v H1 l1 w1 r1 ⟨i, ex, q1⟩ => by
    subst ex
    cases r1 with
    | p r => cases r; exact ⟨i, rfl, k _ M1 ι1 _ H1 l1 w1 (.p (.int _)) q1⟩
/-! truth -/
def uB (ua : UE) : UT := fun ρ M Q => ua ρ M fun x M1 => ∃ b, x = .p (.bl b) ∧ Q b M1
theorem lt_b (ha : LE ta ua) : LT (tB ta) (uB ua) := fun A ι σ H ρ M Qu Q w e q k =>
  ha A ι σ H ρ M _ _ w e q fun x M1 ι1 v H1 l1 w1 r1 ⟨b, ex, q1⟩ => by
    subst ex
    cases r1 with
    | p r => cases r; exact ⟨b, rfl, k b M1 ι1 H1 l1 w1 q1⟩
theorem lt_test (ha : LE ta ua) : LT (tTest ta) (uB ua) := lt_b ha
def uAnd (t s : UT) : UT := fun ρ M Q => t ρ M fun c M1 => if c = true then s ρ M1 Q else Q false M1
def uOr (t s : UT) : UT := fun ρ M Q => t ρ M fun c M1 => if c = true then Q true M1 else s ρ M1 Q
def uNot (t : UT) : UT := fun ρ M Q => t ρ M fun c M1 => Q (!c) M1
theorem lt_or (ha : LT tt ut) (hb : LT tt' ut') : LT (tOr tt tt') (uOr ut ut') := fun A ι σ H ρ M Qu Q w e q k =>
  ha A ι σ H ρ M _ _ w e q fun c M1 ι1 H1 l1 w1 q1 => by
    cases c with
    | true => exact k true M1 ι1 H1 l1 w1 q1
    | false => exact hb A ι1 σ H1 ρ M1 _ _ w1 (e.le l1) q1 fun b M2 ι2 H2 l2 w2 q2 => k b M2 ι2 H2 (l1.trans l2) w2 q2
theorem lt_not (ha : LT tt ut) : LT (tNot tt) (uNot ut) := fun A ι σ H ρ M Qu Q w e q k =>
  ha A ι σ H ρ M _ _ w e q fun c M1 ι1 H1 l1 w1 q1 => k _ M1 ι1 H1 l1 w1 q1
def uAndV (ua ub : UE) : UE := fun ρ M Q => ua ρ M fun x M1 => ∃ c, x = .p (.bl c) ∧ if c = true then ub ρ M1 Q else Q (.p (.bl false)) M1
def uOrV (ua ub : UE) : UE := fun ρ M Q => ua ρ M fun x M1 => ∃ c, x = .p (.bl c) ∧ if c = true then Q (.p (.bl true)) M1 else ub ρ M1 Q
def uNotV (ua : UE) : UE := fun ρ M Q => ua ρ M fun x M1 => ∃ c, x = .p (.bl c) ∧ Q (.p (.bl (!c))) M1
theorem le_andV (ha : LE ta ua) (hb : LE tb ub) : LE (tAndV ta tb) (uAndV ua ub) := fun A ι σ H ρ M Qu Q w e q k =>
  ha A ι σ H ρ M _ _ w e q fun x M1 ι1 v H1 l1 w1 r1 ⟨c, ex, q1⟩ => by
    subst ex
    cases r1 with
    | p r =>
      cases r
      refine ⟨c, rfl, ?_⟩
      cases c with
      | false => exact k _ M1 ι1 _ H1 l1 w1 (.p (.bl _)) q1
      | true => exact hb A ι1 σ H1 ρ M1 _ _ w1 (e.le l1) q1 fun b M2 ι2 v2 H2 l2 w2 r2 q2 => k b M2 ι2 v2 H2 (l1.trans l2) w2 r2 q2
def uIf (t : UT) (ua ub : UE) : UE := fun ρ M Q => t ρ M fun c M1 => if c = true then ua ρ M1 Q else ub ρ M1 Q
theorem le_if (hc : LT tt ut) (ha : LE ta ua) (hb : LE tb ub) : LE (tIf tt ta tb) (uIf ut ua ub) := fun A ι σ H ρ M Qu Q w e q k =>
  hc A ι σ H ρ M _ _ w e q fun c M1 ι1 H1 l1 w1 q1 => by
    cases c with
    | true => exact ha A ι1 σ H1 ρ M1 _ _ w1 (e.le l1) q1 fun b M2 ι2 v2 H2 l2 w2 r2 q2 => k b M2 ι2 v2 H2 (l1.trans l2) w2 r2 q2
    | false => exact hb A ι1 σ H1 ρ M1 _ _ w1 (e.le l1) q1 fun b M2 ι2 v2 H2 l2 w2 r2 q2 => k b M2 ι2 v2 H2 (l1.trans l2) w2 r2 q2
/-- a op b op c -/
def uChain (s s' : T → T → (T → Prop) → Prop) (ua ub uc : UE) : UE := fun ρ M Q => ua ρ M fun x M1 => ub ρ M1 fun y M2 => ∃ a b, sn M2 x = some a ∧ sn M2 y = some b ∧ s a b fun z => ∃ k, z = .bl k ∧
  if k = true then uc ρ M2 fun c M3 => ∃ b' c', sn M3 y = some b' ∧ sn M3 c = some c' ∧ s' b' c' fun t => Q (.p t) M3 else Q (.p (.bl false)) M2
/-! displays -/
def uTup (ul : UA) : UE := fun ρ M Q => ul ρ M fun us M1 => ∃ ts, pureUs us = some ts ∧ Q (.p (.tup ts)) M1
def uLst (ul : UA) : UE := fun ρ M Q => ul ρ M fun us M1 => ∃ ts, pureUs us = some ts ∧ Q (.p (.lst ts)) M1
def uNew (ul : UA) : UE := fun ρ M Q => ul ρ M fun us M1 => Q (.m M1.length) (M1 ++ [.lst us])
def uNewT (ul : UA) : UE := fun ρ M Q => ul ρ M fun us M1 => Q (.m M1.length) (M1 ++ [.tup us])
theorem le_tup (ha : LA n tl ul) (hn : n ≤ 1000 := by decide) : LE (tTup tl) (uTup ul) := fun A ι σ H ρ M Qu Q w e q k =>
  ha A ι σ H ρ M _ _ w e q fun us M1 ι1 vs H1 l1 w1 hl r1 ⟨ts, et, q1⟩ => by
    have r2 := r1
    rw [pureUs_eq et] at r2
    exact ⟨by rw [r1.len, hl]; exact Nat.le_of_lt (small1000 hn), fun p hp => k _ M1 ι1 _ _ (l1.trans (.fresh hp)) (w1.fresh hp) (.p (fresh_tup w1 hp r2.pures)) q1⟩
theorem le_lst (ha : LA n tl ul) (hn : n ≤ 1000 := by decide) : LE (tLst tl) (uLst ul) := fun A ι σ H ρ M Qu Q w e q k =>
  ha A ι σ H ρ M _ _ w e q fun us M1 ι1 vs H1 l1 w1 hl r1 ⟨ts, et, q1⟩ => by
    have r2 := r1
    rw [pureUs_eq et] at r2
    exact ⟨by rw [r1.len, hl]; exact Nat.le_of_lt (small1000 hn), fun p hp => k _ M1 ι1 _ _ (l1.trans (.fresh hp)) (w1.fresh hp) (.p (fresh_lst w1 hp r2.pures)) q1⟩
theorem get_last {α : Type} {l : List α} {x : α} : (l ++ [x])[l.length]? = some x := by rw [List.getElem?_append_right (Nat.le_refl _), Nat.sub_self]; rfl
theorem new_lst (w : Wd A ι H M) {p : Addr} {vs : List V} {us : List U} (h : H p = none) (r : RepUs A ι H vs us) : Wd A (ι ++ [p]) (upd H p (.lst vs)) (M ++ [.lst us]) ∧ RepU A (ι ++ [p]) (upd H p (.lst vs)) (.ref p) (.m M.length) :=
  ⟨w.push h ⟨vs, upd_same, r.le (.push h)⟩, .m (by rw [← w.len]; exact get_last)⟩
theorem le_new (ha : LA n tl ul) (hn : n ≤ 1000 := by decide) : LE (tLst tl) (uNew ul) := fun A ι σ H ρ M Qu Q w e q k =>
  ha A ι σ H ρ M _ _ w e q fun us M1 ι1 vs H1 l1 w1 hl r1 q1 => ⟨by rw [r1.len, hl]; exact Nat.le_of_lt (small1000 hn), fun p hp => k _ _ _ _ _ (l1.trans (.push hp)) (new_lst w1 hp r1).1 (new_lst w1 hp r1).2 q1⟩
/-! items -/
def itemsL (M : MM) : U → Option (List U)
  | .p (.lst ts) => some (ts.map .p)
  | .m k => match M[k]? with
    | some (.lst us) => some us
    | _ => none
  | _ => none
def itemsT (M : MM) : U → Option (List U)
  | .p (.tup ts) => some (ts.map .p)
  | .m k => match M[k]? with
    | some (.tup us) => some us
    | _ => none
  | _ => none
theorem itemsL_rep {us : List U} (w : Wd A ι H M) (r : RepU A ι H v u) (e : itemsL M u = some us) : ∃ p vs, v = .ref p ∧ H p = some (.lst vs) ∧ RepUs A ι H vs us := by
  cases r with
  | p r =>
    cases r with
    | lst na e1 l r => simp [itemsL] at e; subst e; exact ⟨_, _, rfl, e1, RepTs.ups (Paired.of_get l r)⟩
    | _ => simp [itemsL] at e
  | m q =>
    obtain ⟨o, h1, h2⟩ := w.al q
    simp only [itemsL, h1] at e
    cases o with
    | lst us => simp at e; subst e; obtain ⟨vs, h3, h4⟩ := h2; exact ⟨_, _, rfl, h3, h4⟩
    | _ => simp at e
theorem itemsT_rep {us : List U} (w : Wd A ι H M) (r : RepU A ι H v u) (e : itemsT M u = some us) : ∃ p vs, v = .ref p ∧ H p = some (.tup vs) ∧ RepUs A ι H vs us := by
  cases r with
  | p r =>
    cases r with
    | tup na e1 l r => simp [itemsT] at e; subst e; exact ⟨_, _, rfl, e1, RepTs.ups (Paired.of_get l r)⟩
    | _ => simp [itemsT] at e
  | m q =>
    obtain ⟨o, h1, h2⟩ := w.al q
    simp only [itemsT, h1] at e
    cases o with
    | tup us => simp at e; subst e; obtain ⟨vs, h3, h4⟩ := h2; exact ⟨_, _, rfl, h3, h4⟩
    | _ => simp at e
theorem atI_rep {vs : List V} {us : List U} {i : Int} {z : U} (r : RepUs A ι H vs us) (e : atI us i = some z) : ∃ x, atI vs i = some x ∧ RepU A ι H x z := by
  unfold atI at e ⊢
  rw [r.len]
  cases q : ixN us.length i with
  | none => rw [q] at e; cases e
  | some j =>
    rw [q] at e
    exact Paired.getR r e
def uIx (it : MM → U → Option (List U)) (ua ub : UE) : UE := fun ρ M Q => ua ρ M fun x M1 => ub ρ M1 fun y M2 => ∃ us i z, it M2 x = some us ∧ y = .p (.int i) ∧ atI us i = some z ∧ Q z M2
theorem le_ixL {K : PySem.W.Frag} (ha : LE ta ua) (hb : LE tb ub) : LE (tOp (rIxL K) ta tb) (uIx itemsL ua ub) := fun A ι σ H ρ M Qu Q w e q k =>
  ha A ι σ H ρ M _ _ w e q fun x M1 ι1 v H1 l1 w1 r1 q1 => hb A ι1 σ H1 ρ M1 _ _ w1 (e.le l1) q1 fun y M2 ι2 v2 H2 l2 w2 r2 ⟨us, i, z, e1, e2, e3, q2⟩ => by
    subst e2
    obtain ⟨p, vs, rfl, h1, h2⟩ := itemsL_rep w2 (r1.le l2) e1
    obtain ⟨x', h3, h4⟩ := atI_rep h2 e3
    cases r2 with
    | p r => cases r; exact ⟨p, vs, i, x', rfl, rfl, SqL.of h1, h3, k z M2 ι2 x' H2 (l1.trans l2) w2 h4 q2⟩
theorem le_ixT {K : PySem.W.Frag} (ha : LE ta ua) (hb : LE tb ub) : LE (tOp (rIxT K) ta tb) (uIx itemsT ua ub) := fun A ι σ H ρ M Qu Q w e q k =>
  ha A ι σ H ρ M _ _ w e q fun x M1 ι1 v H1 l1 w1 r1 q1 => hb A ι1 σ H1 ρ M1 _ _ w1 (e.le l1) q1 fun y M2 ι2 v2 H2 l2 w2 r2 ⟨us, i, z, e1, e2, e3, q2⟩ => by
    subst e2
    obtain ⟨p, vs, rfl, h1, h2⟩ := itemsT_rep w2 (r1.le l2) e1
    obtain ⟨x', h3, h4⟩ := atI_rep h2 e3
    cases r2 with
    | p r => cases r; exact ⟨p, vs, i, x', rfl, rfl, SqT.of h1, h3, k z M2 ι2 x' H2 (l1.trans l2) w2 h4 q2⟩
/-! built-in calls on snapshots -/
def CbL (r : List V → Hp → VK → Prop) (s : List T → (T → Prop) → Prop) : Prop := ∀ (A : Addr → Prop) (ι : List Addr) (H : Hp) (M : MM) (vs : List V) (ts : List T) (Qs : T → Prop) (Q : VK), Wd A ι H M → Paired (RepV (Av A ι) H) vs ts → s ts Qs →
  (∀ t ι' v H', Le ι H ι' H' → Wd A ι' H' M → RepT (Av A ι') H' v t → Qs t → Q v H') → r vs H Q
def uCb (s : List T → (T → Prop) → Prop) (ul : UA) : UE := fun ρ M Q => ul ρ M fun us M1 => ∃ ts, sns M1 us = some ts ∧ s ts fun t => Q (.p t) M1
theorem le_cb {r : List V → Hp → VK → Prop} {s : List T → (T → Prop) → Prop} (h : CbL r s) (ha : LA n tl ul) : LE (tCB r tl) (uCb s ul) := fun A ι σ H ρ M Qu Q w e q k =>
  ha A ι σ H ρ M _ _ w e q fun us M1 ι1 vs H1 l1 w1 hl r1 ⟨ts, e1, q1⟩ => h A ι1 H1 M1 vs ts _ Q w1 (r1.sns w1 e1) q1 fun t ι2 z H2 l2 w2 r2 q2 => k _ M1 ι2 z H2 (l1.trans l2) w2 (.p r2) q2
theorem pv1 {vs : List V} {t : T} (r : Paired (RepV A H) vs [t]) : ∃ v, vs = [v] ∧ RepV A H v t := by
  cases r with
  | cons r q => cases q; exact ⟨_, rfl, r⟩
def sAbs : List T → (T → Prop) → Prop := fun ts Q => ∃ i, ts = [.int i] ∧ Q (.int (if i < 0 then -i else i))
theorem cbl_abs : CbL (fun xs H Q => ∃ i, xs = [.int i] ∧ Q (.int (if i < 0 then -i else i)) H) sAbs := fun A ι H M vs ts Qs Q w r ⟨i, e, q⟩ k => by
  subst e
  obtain ⟨v, ev, r1⟩ := pv1 r
  subst ev
  cases r1.int_inv
  exact ⟨i, rfl, k _ ι _ H (.refl _ _) w (.int _) q⟩
def sMin : List T → (T → Prop) → Prop := fun ts Q => ∃ i j, ts = [.int i, .int j] ∧ Q (.int (if j < i then j else i))
def sMax : List T → (T → Prop) → Prop := fun ts Q => ∃ i j, ts = [.int i, .int j] ∧ Q (.int (if j > i then j else i))
def sInt : List T → (T → Prop) → Prop := fun ts Q => (∃ i, ts = [.int i] ∧ Q (.int i)) ∨ ∃ k, ts = [.bl k] ∧ Q (.int (if k then 1 else 0))
theorem cbl_int : CbL (fun xs H Q => (∃ i, xs = [.int i] ∧ Q (.int i) H) ∨ ∃ k, xs = [.bl k] ∧ Q (.int (if k then 1 else 0)) H) sInt := fun A ι H M vs ts Qs Q w r h k => by
  rcases h with ⟨i, e, q⟩ | ⟨b, e, q⟩
  · subst e
    obtain ⟨v, ev, r1⟩ := pv1 r
    subst ev
    cases r1.int_inv
    exact .inl ⟨i, rfl, k _ ι _ H (.refl _ _) w (.int _) q⟩
  · subst e
    obtain ⟨v, ev, r1⟩ := pv1 r
    subst ev
    cases r1.bl_inv
    exact .inr ⟨b, rfl, k _ ι _ H (.refl _ _) w (.int _) q⟩
def bls : List T → Option (List Bool)
  | [] => some []
  | .bl b :: r => (bls r).map (b :: ·)
  | _ => none
@[simp] theorem bls_map : ∀ bs : List Bool, bls (bs.map T.bl) = some bs
  | [] => rfl
  | b :: r => by simp [bls, bls_map r]
/-- len -/
def uLen (it : MM → U → Option (List U)) (ul : UA) : UE := fun ρ M Q => ul ρ M fun us M1 => ∃ x ys, us = [x] ∧ it M1 x = some ys ∧ Q (.p (.int ys.length)) M1
theorem le_len (ha : LA n tl ul) : LE (tCB rLenL tl) (uLen itemsL ul) := fun A ι σ H ρ M Qu Q w e q k =>
  ha A ι σ H ρ M _ _ w e q fun us M1 ι1 vs H1 l1 w1 hl r1 ⟨x, ys, e1, e2, q1⟩ => by
    subst e1
    cases r1 with
    | cons r q =>
      cases q
      obtain ⟨p, zs, rfl, h1, h2⟩ := itemsL_rep w1 r e2
      exact ⟨p, zs, rfl, h1, by rw [h2.len]; exact k _ M1 ι1 _ H1 l1 w1 (.p (.int _)) q1⟩
/-- a bit_length -/
def uBits (ua : UE) : UE := fun ρ M Q => ua ρ M fun x M1 => ∃ i, x = .p (.int i) ∧ Q (.p (.int (Builtin.Int.intBits i))) M1
/-- a slice -/
def cutT (xs : List T) (lo hi : Option Int) : List T := (xs.drop (HT.sIx xs.length 0 lo)).take (HT.sIx xs.length xs.length hi - HT.sIx xs.length 0 lo)
abbrev UO := UEnv → MM → (Option Int → MM → Prop) → Prop
def uNoPart : UO := fun _ M Q => Q none M
def uPart (ua : UE) : UO := fun ρ M Q => ua ρ M fun x M1 => ∃ i, x = .p (.int i) ∧ Q (some i) M1
def uSl (ua : UE) (ul uh : UO) : UE := fun ρ M Q => ua ρ M fun x M1 => ul ρ M1 fun l M2 => uh ρ M2 fun h M3 => ∃ ts, sn M3 x = some (.lst ts) ∧ Q (.p (.lst (cutT ts l h))) M3
end
end L2

namespace L2
open PySem PySem.Spec PyProof.Rows
/-! ### iterators, targets, comprehensions -/
section
variable {te ta tb tc : TE} {ue ua ub uc : UE} {tt tt' : TT} {ut ut' : UT} {tl : TA} {ul : UA} {n : Nat} {A A' A2 : Addr → Prop} {H H' H1 H2 : Hp} {ι ι' ι1 ι2 : List Addr} {M M' : MM} {v : V} {u : U} {t : T} {σ : St} {ρ : UEnv} {K : PySem.W.Frag}
structure Lea (A : Addr → Prop) (ι : List Addr) (H : Hp) (A' : Addr → Prop) (ι' : List Addr) (H' : Hp) : Prop where
  ext : ∃ n, ι' = ι ++ n
  av : ∀ x o, ¬ Av A ι x → H x = some o → H' x = some o ∧ ¬ Av A' ι' x
theorem Le.lea (l : Le ι H ι' H') : Lea A ι H A ι' H' := ⟨let ⟨n, e, _⟩ := l.ext; ⟨n, e⟩, fun _ _ h e => l.av h e⟩
theorem Lea.trans (a : Lea A ι H A' ι' H') (b : Lea A' ι' H' A2 ι2 H2) : Lea A ι H A2 ι2 H2 := by
  obtain ⟨n, rfl⟩ := a.ext
  obtain ⟨m, rfl⟩ := b.ext
  exact ⟨⟨n ++ m, by rw [List.append_assoc]⟩, fun x o h e => b.av x o (a.av x o h e).2 (a.av x o h e).1⟩
theorem RepU.lea (l : Lea A ι H A' ι' H') (r : RepU A ι H v u) : RepU A' ι' H' v u := by
  cases r with
  | p r => exact .p (r.mono l.av)
  | m e =>
    obtain ⟨n, rfl⟩ := l.ext
    exact .m (by rw [List.getElem?_append_left (List.getElem?_eq_some_iff.mp e).1]; exact e)
structure UIt where
  n : Nat
  ok : MM → Prop
  item : Nat → U → Prop
def ItR (A : Addr → Prop) (ι1 : List Addr) (H1 : Hp) (J : It) (it : UIt) : Prop := ∀ (A' : Addr → Prop) (ι : List Addr) (H : Hp) (M : MM) (i : Nat), Lea A ι1 H1 A' ι H → Wd A' ι H M → it.ok M →
  (i < it.n → J.go i H ∧ ∀ x H', J.yld i H x H' → ∃ u, it.item i u ∧ Le ι H ι H' ∧ Wd A' ι H' M ∧ RepU A' ι H' x u) ∧ (i = it.n → J.stop i H)
abbrev UI := UEnv → MM → (UIt → MM → Prop) → Prop
def LI (wi : TI) (ui : UI) : Prop := ∀ (A : Addr → Prop) (ι : List Addr) (σ : St) (H : Hp) (ρ : UEnv) (M : MM) (Qu : UIt → MM → Prop) (R : It → Hp → Prop), Wd A ι H M → EnvR A ι H σ ρ → ui ρ M Qu →
  (∀ it M' ι' J H', Le ι H ι' H' → Wd A ι' H' M' → ItR A ι' H' J it → Qu it M' → R J H') → wi σ H R
def uIter (ua : UE) : UI := fun ρ M Q => ua ρ M fun x M1 => ∃ us, itemsL M1 x = some us ∧ Q ⟨us.length, fun M => itemsL M x = some us, fun i z => us[i]? = some z⟩ M1
theorem li_list (ha : LE ta ua) : LI (iList K ta) (uIter ua) := fun A ι σ H ρ M Qu R w e q k =>
  ha A ι σ H ρ M _ _ w e q fun x M1 ι1 v H1 l1 w1 r1 ⟨us, eu, q1⟩ => by
    obtain ⟨p, vs, rfl, h1, h2⟩ := itemsL_rep w1 r1 eu
    refine ⟨p, rfl, ⟨vs, SqL.of h1⟩, k _ M1 ι1 _ H1 l1 w1 ?_ q1⟩
    intro A' ι2 H2 M2 i l w2 ok
    obtain ⟨p', vs2, e2, h3, h4⟩ := itemsL_rep w2 (r1.lea l) ok
    cases e2
    have hl := h4.len
    refine ⟨fun hi => ?_, fun hi => ⟨vs2, SqL.of h3, by rw [hl]; exact Nat.le_of_eq hi.symm⟩⟩
    have hx : vs2[i]? = some (vs2[i]'(by rw [hl]; exact hi)) := List.getElem?_eq_getElem _
    refine ⟨⟨vs2, _, SqL.of h3, hx⟩, fun x H' y => ?_⟩
    obtain ⟨rfl, y⟩ := y
    have hx2 := y vs2 (SqL.of h3)
    obtain ⟨z, hz, rz⟩ := Paired.getL h4 hx2
    exact ⟨z, hz, .refl _ _, w2, rz⟩
def uRev (ul : UA) : UI := fun ρ M Q => ul ρ M fun xs M1 => ∃ x us, xs = [x] ∧ itemsL M1 x = some us ∧ Q ⟨us.length, fun M => itemsL M x = some us, fun i z => us[us.length - 1 - i]? = some z⟩ M1
def uRng1 (ul : UA) : UI := fun ρ M Q => ul ρ M fun xs M1 => ∃ j : Int, xs = [.p (.int j)] ∧ -(2 ^ 62) ≤ j ∧ j < 2 ^ 62 ∧ Q ⟨j.toNat, fun _ => True, fun i z => z = .p (.int i)⟩ M1
theorem itr_ok {lo : Int} {n : Nat} : ItR A ι H (Itr lo n) ⟨n, fun _ => True, fun i z => z = .p (.int (lo + i))⟩ := fun A' ι2 H2 M2 i l w2 _ =>
  ⟨fun hi => ⟨hi, fun x H' y => by
    obtain ⟨rfl, rfl⟩ := y
    exact ⟨_, rfl, .refl _ _, w2, .p (.int _)⟩⟩, fun hi => Nat.le_of_eq hi.symm⟩
theorem li_rng1 (ha : LA n tl ul) : LI (iRng1 tl) (uRng1 ul) := fun A ι σ H ρ M Qu R w e q k =>
  ha A ι σ H ρ M _ _ w e q fun xs M1 ι1 vs1 H1 l1 w1 hn r0 ⟨j, ex, j0, j1, q1⟩ => by
    subst ex
    cases r0 with
    | cons r1 r0 =>
    cases r0
    cases r1 with
    | p r =>
    cases r
    have := itr_ok (A := A) (ι := ι1) (H := H1) (lo := 0) (n := j.toNat)
    simp only [Int.zero_add] at this
    exact ⟨j, rfl, j0, j1, k _ M1 ι1 _ H1 l1 w1 this q1⟩
/-! targets -/
abbrev UG := U → UEnv → MM → (UEnv → MM → Prop) → Prop
def LG (g : TG) (ug : UG) : Prop := ∀ (A : Addr → Prop) (ι : List Addr) (σ : St) (H : Hp) (ρ : UEnv) (M : MM) (v : V) (u : U) (Qu : UEnv → MM → Prop) (Q : St → Hp → Prop), Wd A ι H M → EnvR A ι H σ ρ → RepU A ι H v u → ug u ρ M Qu →
  (∀ ρ' M' ι' σ' H', Le ι H ι' H' → Wd A ι' H' M' → EnvR A ι' H' σ' ρ' → Qu ρ' M' → Q σ' H') → g v σ H Q
def uName (i : Nat) : UG := fun u ρ M Q => Q (ρ.set i (some u)) M
def uName2 (i j : Nat) : UG := fun u ρ M Q => ∃ a b, itemsT M u = some [a, b] ∧ Q ((ρ.set i (some a)).set j (some b)) M
def uName3 (i j k : Nat) : UG := fun u ρ M Q => ∃ a b c, itemsT M u = some [a, b, c] ∧ Q (((ρ.set i (some a)).set j (some b)).set k (some c)) M
theorem lg_name (i : Nat) : LG (gName i) (uName i) := fun A ι σ H ρ M v u Qu Q w e r q k => k _ M ι _ H (.refl _ _) w (e.put i r) q
theorem rep2 {vs : List V} {a b : U} (r : RepUs A ι H vs [a, b]) : ∃ x y, vs = [x, y] ∧ RepU A ι H x a ∧ RepU A ι H y b := by
  cases r with
  | cons r q => cases q with | cons r2 q => cases q; exact ⟨_, _, rfl, r, r2⟩
theorem lg_name2 (i j : Nat) : LG (gTup K 2 (gCons (gName i) (gCons (gName j) gNil))) (uName2 i j) := fun A ι σ H ρ M v u Qu Q w e r ⟨a, b, ei, q⟩ k => by
  obtain ⟨p, vs, rfl, h1, h2⟩ := itemsT_rep w r ei
  obtain ⟨x, y, rfl, r1, r2⟩ := rep2 h2
  exact gTup2_at h1 (k _ M ι _ H (.refl _ _) w ((e.put i r1).put j r2) q)
/-- xs[i] = v -/
def uSub (uo ui : UE) : UG := fun u ρ M Q => uo ρ M fun o M1 => ui ρ M1 fun i M2 => ∃ k us z j, o = .m k ∧ M2[k]? = some (.lst us) ∧ i = .p (.int z) ∧ ixN us.length z = some j ∧ Q ρ (M2.set k (.lst (us.set j u)))
theorem lg_sub (ha : LE ta ua) (hb : LE tb ub) : LG (gSub ta tb rSetL) (uSub ua ub) := fun A ι σ H ρ M v u Qu Q w e r q k =>
  ha A ι σ H ρ M _ _ w e q fun o M1 ι1 v1 H1 l1 w1 r1 q1 => hb A ι1 σ H1 ρ M1 _ _ w1 (e.le l1) q1 fun i M2 ι2 v2 H2 l2 w2 r2 ⟨kk, us, z, j, eo, em, ei, ej, q2⟩ => by
    subst eo ei
    cases r2 with
    | p r2 =>
    cases r2
    have r1' := r1.le l2
    cases r1' with
    | m ek =>
    obtain ⟨vs, h1, h2⟩ := w2.obj kk _ _ ek em
    have hm := List.mem_of_getElem? ek
    refine ⟨_, vs, z, j, rfl, rfl, h1, by rw [h2.len]; exact ej, k _ _ ι2 _ _ ((l1.trans l2).trans (.put hm)) (w2.put (mo := .lst (us.set j u)) ek ⟨_, upd_same, ?_⟩) (e.le ((l1.trans l2).trans (.put hm))) q2⟩
    exact RepUs.le (.put hm) (Paired.put (r.le (l1.trans l2)) j h2)
abbrev uYes : UT := fun _ M Q => Q true M
def UComp (it : UIt) (ug : UG) (ut : UT) (ue : UE) (ρ0 : UEnv) (M1 : MM) (Q : UK) : Prop := it.n ≤ sizeLine ∧ ∃ Iv : Nat → List T → MM → Prop, Iv 0 [] M1 ∧
  (∀ i acc M2, i < it.n → acc.length ≤ i → Iv i acc M2 → it.ok M2 ∧ ∀ u, it.item i u → ug u ρ0 M2 fun ρ4 M4 => ut ρ4 M4 fun b M5 => if b = true then ue ρ4 M5 fun z M6 => ∃ t, z = .p t ∧ Iv (i + 1) (acc ++ [t]) M6 else Iv (i + 1) acc M5) ∧
  (∀ acc M2, Iv it.n acc M2 → it.ok M2 ∧ Q (.p (.lst acc)) M2)
def uComp (ui : UI) (bs : List Bool) (n : Nat) (ug : UG) (ut : UT) (ue : UE) : UE := fun ρ M Q => ui ρ M fun it M1 => ρ.length = bs.length ∧ UComp it ug ut ue (maskU bs n ρ) M1 Q
end
end L2

namespace L2
open PySem PySem.Spec PyProof.Rows
/-! ### statements, calls, defs -/
section
variable {te ta tb tc : TE} {ue ua ub uc : UE} {tt tt' : TT} {ut ut' : UT} {tl : TA} {ul : UA} {n : Nat} {A A' A2 : Addr → Prop} {H H' H1 H2 : Hp} {ι ι' ι1 ι2 : List Addr} {M M' : MM} {v : V} {u : U} {t : T} {σ : St} {ρ : UEnv} {K : PySem.W.Frag}
structure UEnds where
  nx : UEnv → MM → Prop
  rt : UK
  bk : UEnv → MM → Prop := fun _ _ => False
  ct : UEnv → MM → Prop := fun _ _ => False
abbrev US := UEnds → UEnv → MM → Prop
structure EndsR (A : Addr → Prop) (ι0 : List Addr) (H0 : Hp) (E : UEnds) (D : Ends) : Prop where
  nx : ∀ ι σ H ρ M, Le ι0 H0 ι H → Wd A ι H M → EnvR A ι H σ ρ → E.nx ρ M → D.nx σ H
  rt : ∀ ι v H u M, Le ι0 H0 ι H → Wd A ι H M → RepU A ι H v u → E.rt u M → D.rt v H
  bk : ∀ ι σ H ρ M, Le ι0 H0 ι H → Wd A ι H M → EnvR A ι H σ ρ → E.bk ρ M → D.bk σ H
  ct : ∀ ι σ H ρ M, Le ι0 H0 ι H → Wd A ι H M → EnvR A ι H σ ρ → E.ct ρ M → D.ct σ H
theorem EndsR.le {E : UEnds} {D : Ends} (l : Le ι H ι' H') (r : EndsR A ι H E D) : EndsR A ι' H' E D :=
  ⟨fun _ _ _ _ _ h => r.nx _ _ _ _ _ (l.trans h), fun _ _ _ _ _ h => r.rt _ _ _ _ _ (l.trans h), fun _ _ _ _ _ h => r.bk _ _ _ _ _ (l.trans h), fun _ _ _ _ _ h => r.ct _ _ _ _ _ (l.trans h)⟩
/-- the link of a statement: the ends are linked from the state ahead of it on -/
def LS (ts : TS) (us : US) : Prop := ∀ (A : Addr → Prop) (ι : List Addr) (σ : St) (H : Hp) (ρ : UEnv) (M : MM) (D : Ends) (E : UEnds), Wd A ι H M → EnvR A ι H σ ρ → EndsR A ι H E D → us E ρ M → ts D σ H
variable {ts ts' : TS} {us us' : US}
def uNext : US := fun E ρ M => E.nx ρ M
def uSeq (a b : US) : US := fun E ρ M => a { E with nx := b E } ρ M
def uDrop (ua : UE) : US := fun E ρ M => ua ρ M fun _ M1 => E.nx ρ M1
def uRet (ua : UE) : US := fun E ρ M => ua ρ M E.rt
def uRetN : US := fun E ρ M => E.rt (.p .non) M
def uIfS (c : UT) (a b : US) : US := fun E ρ M => c ρ M fun k M1 => if k = true then a E ρ M1 else b E ρ M1
def uAsg (ua : UE) (g : UG) : US := fun E ρ M => ua ρ M fun x M1 => g x ρ M1 E.nx
theorem ls_next : LS tNext uNext := fun A ι σ H ρ M D E w e r q => r.nx ι σ H ρ M (.refl _ _) w e q
theorem ls_seq (ha : LS ts us) (hb : LS ts' us') : LS (tSeq ts ts') (uSeq us us') := fun A ι σ H ρ M D E w e r q =>
  ha A ι σ H ρ M _ { E with nx := us' E } w e ⟨fun ι1 σ1 H1 ρ1 M1 l w1 e1 q1 => hb A ι1 σ1 H1 ρ1 M1 D E w1 e1 (r.le l) q1, r.rt, r.bk, r.ct⟩ q
theorem ls_drop (ha : LE ta ua) : LS (tDrop ta) (uDrop ua) := fun A ι σ H ρ M D E w e r q =>
  ha A ι σ H ρ M _ _ w e q fun x M1 ι1 v H1 l1 w1 r1 q1 => r.nx ι1 σ H1 ρ M1 l1 w1 (e.le l1) q1
theorem ls_ret (ha : LE ta ua) : LS (tRet ta) (uRet ua) := fun A ι σ H ρ M D E w e r q =>
  ha A ι σ H ρ M _ _ w e q fun x M1 ι1 v H1 l1 w1 r1 q1 => r.rt ι1 v H1 x M1 l1 w1 r1 q1
theorem ls_if (hc : LT tt ut) (ha : LS ts us) (hb : LS ts' us') : LS (tIfS tt ts ts') (uIfS ut us us') := fun A ι σ H ρ M D E w e r q =>
  hc A ι σ H ρ M _ _ w e q fun c M1 ι1 H1 l1 w1 q1 => by
    cases c with
    | true => exact ha A ι1 σ H1 ρ M1 D E w1 (e.le l1) (r.le l1) q1
    | false => exact hb A ι1 σ H1 ρ M1 D E w1 (e.le l1) (r.le l1) q1
theorem ls_asg {g : TG} {ug : UG} (ha : LE ta ua) (hg : LG g ug) : LS (tAsg ta g) (uAsg ua ug) := fun A ι σ H ρ M D E w e r q =>
  ha A ι σ H ρ M _ _ w e q fun x M1 ι1 v H1 l1 w1 r1 q1 => hg A ι1 σ H1 ρ M1 v x _ _ w1 (e.le l1) r1 q1 fun ρ2 M2 ι2 σ2 H2 l2 w2 e2 q2 => r.nx ι2 σ2 H2 ρ2 M2 (l1.trans l2) w2 e2 q2
def UFor (it : UIt) (ug : UG) (ub : US) (E : UEnds) (ρ : UEnv) (M1 : MM) : Prop := ∃ Iv : Nat → UEnv → MM → Prop, Iv 0 ρ M1 ∧
  (∀ i ρ2 M2, i < it.n → Iv i ρ2 M2 → it.ok M2 ∧ ∀ u, it.item i u → ug u ρ2 M2 fun ρ3 M3 => ub { E with nx := Iv (i + 1), ct := Iv (i + 1), bk := E.nx } ρ3 M3) ∧
  (∀ ρ2 M2, Iv it.n ρ2 M2 → it.ok M2 ∧ E.nx ρ2 M2)
def uFor (ui : UI) (ug : UG) (ub : US) : US := fun E ρ M => ui ρ M fun it M1 => UFor it ug ub E ρ M1
theorem ls_for {wi : TI} {ui : UI} {g : TG} {ug : UG} (hi : LI wi ui) (hg : LG g ug) (hb : LS ts us) : LS (tFor wi g ts) (uFor ui ug us) := by
  intro A ι σ H ρ M D E w e r q
  refine hi A ι σ H ρ M _ _ w e q fun it M1 ι1 J H1 l1 w1 hJ q1 => ?_
  obtain ⟨Iv, I0, It, Id⟩ := q1
  have r1 := r.le l1
  refine ⟨fun i m σ2 H2 => m = it.n - i ∧ i ≤ it.n ∧ ∃ ι2 ρ2 M2, Le ι1 H1 ι2 H2 ∧ Wd A ι2 H2 M2 ∧ EnvR A ι2 H2 σ2 ρ2 ∧ Iv i ρ2 M2, ⟨it.n, by simp, Nat.zero_le _, ι1, ρ, M1, .refl _ _, w1, e.le l1, I0⟩, ?_⟩
  rintro i m σ2 H2 ⟨rfl, hin, ι2, ρ2, M2, l2, w2, e2, I2⟩
  by_cases hlt : i < it.n
  · obtain ⟨ok, step⟩ := It i ρ2 M2 hlt I2
    obtain ⟨jgo, jy⟩ := (hJ A ι2 H2 M2 i l2.lea w2 ok).1 hlt
    refine .inr ⟨jgo, fun σ' H' => ∃ ι2 ρ2 M2, Le ι1 H1 ι2 H' ∧ Wd A ι2 H' M2 ∧ EnvR A ι2 H' σ' ρ2 ∧ Iv (i + 1) ρ2 M2, fun σ' H' h => ⟨it.n - (i + 1), by omega, rfl, hlt, h⟩, fun x H3 y => ?_⟩
    obtain ⟨u, hu, l3, w3, r3⟩ := jy x H3 y
    refine hg A ι2 σ2 H3 ρ2 M2 x u _ _ w3 (e2.le l3) r3 (step u hu) fun ρ4 M4 ι4 σ4 H4 l4 w4 e4 q4 => ?_
    have l14 := (l2.trans l3).trans l4
    exact hb A ι4 σ4 H4 ρ4 M4 _ { E with nx := Iv (i + 1), ct := Iv (i + 1), bk := E.nx } w4 e4 ⟨fun ι5 σ5 H5 ρ5 M5 l5 w5 e5 q5 => ⟨ι5, ρ5, M5, l14.trans l5, w5, e5, q5⟩, (r1.le l14).rt, (r1.le l14).nx, fun ι5 σ5 H5 ρ5 M5 l5 w5 e5 q5 => ⟨ι5, ρ5, M5, l14.trans l5, w5, e5, q5⟩⟩ q4
  · have ei : i = it.n := by omega
    subst ei
    obtain ⟨ok, fin⟩ := Id ρ2 M2 I2
    exact .inl ⟨(hJ A ι2 H2 M2 _ l2.lea w2 ok).2 rfl, r1.nx ι2 σ2 H2 ρ2 M2 l2 w2 e2 fin⟩
def uWhile (uc : UT) (ub : US) : US := fun E ρ M => ∃ W : Nat → UEnv → MM → Prop, (∃ m, W m ρ M) ∧ ∀ m ρ M, W m ρ M →
  uc ρ M fun b M1 => if b = true then ∃ N : UEnv → MM → Prop, (∀ ρ' M', N ρ' M' → ∃ m', m' < m ∧ W m' ρ' M') ∧ ub { E with nx := N, ct := N, bk := E.nx } ρ M1 else E.nx ρ M1
theorem ls_while (hc : LT tt ut) (hb : LS ts us) : LS (tWhile tt ts) (uWhile ut us) := by
  intro A ι σ H ρ M D E w e r q
  obtain ⟨W, ⟨m0, W0⟩, step⟩ := q
  refine ⟨fun m σ2 H2 => ∃ ι2 ρ2 M2, Le ι H ι2 H2 ∧ Wd A ι2 H2 M2 ∧ EnvR A ι2 H2 σ2 ρ2 ∧ W m ρ2 M2, ⟨m0, ι, ρ, M, .refl _ _, w, e, W0⟩, ?_⟩
  rintro m σ2 H2 ⟨ι2, ρ2, M2, l2, w2, e2, W2⟩
  refine hc A ι2 σ2 H2 ρ2 M2 _ _ w2 e2 (step m ρ2 M2 W2) fun b M3 ι3 H3 l3 w3 q3 => ?_
  cases b with
  | false => exact r.nx ι3 σ2 H3 ρ2 M3 (l2.trans l3) w3 (e2.le l3) q3
  | true =>
    obtain ⟨N, hN, q3⟩ := q3
    have l13 := l2.trans l3
    refine ⟨fun σ' H' => ∃ ι4 ρ4 M4, Le ι H ι4 H' ∧ Wd A ι4 H' M4 ∧ EnvR A ι4 H' σ' ρ4 ∧ N ρ4 M4, ?_, ?_⟩
    · rintro σ' H' ⟨ι4, ρ4, M4, l4, w4, e4, n4⟩
      obtain ⟨m', hm, W4⟩ := hN ρ4 M4 n4
      exact ⟨m', hm, ι4, ρ4, M4, l4, w4, e4, W4⟩
    · exact hb A ι3 σ2 H3 ρ2 M3 _ { E with nx := N, ct := N, bk := E.nx } w3 (e2.le l3) ⟨fun ι5 σ5 H5 ρ5 M5 l5 w5 e5 q5 => ⟨ι5, ρ5, M5, l13.trans l5, w5, e5, q5⟩, (r.le l13).rt, (r.le l13).nx, fun ι5 σ5 H5 ρ5 M5 l5 w5 e5 q5 => ⟨ι5, ρ5, M5, l13.trans l5, w5, e5, q5⟩⟩ q3
/-! methods of lists that change -/
def MeL (r : V → List V → Hp → VK → Prop) (s : List U → List U → (U → List U → Prop) → Prop) : Prop := ∀ (A : Addr → Prop) (ι : List Addr) (H : Hp) (M : MM) (k : Nat) (a : Addr) (xs ys : List V) (us ws : List U) (Qs : U → List U → Prop) (Q : VK), Wd A ι H M → ι[k]? = some a → H a = some (.lst xs) → M[k]? = some (.lst us) → RepUs A ι H xs us → RepUs A ι H ys ws → s us ws Qs →
  (∀ z us' v xs', RepUs A ι H xs' us' → RepU A ι H v z → Qs z us' → Q v (upd H a (.lst xs'))) → r (.ref a) ys H Q
def uMe (s : List U → List U → (U → List U → Prop) → Prop) (uo : UE) (ul : UA) : UE := fun ρ M Q => uo ρ M fun o M1 => ∃ k, o = .m k ∧ (∃ zs, M1[k]? = some (.lst zs)) ∧ ul ρ M1 fun ws M2 => ∃ us, M2[k]? = some (.lst us) ∧ s us ws fun z us' => Q z (M2.set k (.lst us'))
theorem le_me {r : V → List V → Hp → VK → Prop} {s : List U → List U → (U → List U → Prop) → Prop} (h : MeL r s) (ha : LE ta ua) (hl : LA n tl ul) : LE (tLM r ta tl) (uMe s ua ul) := fun A ι σ H ρ M Qu Q w e q k =>
  ha A ι σ H ρ M _ _ w e q fun o M1 ι1 v H1 l1 w1 r1 ⟨kk, eo, ⟨zs, hz⟩, q1⟩ => by
    subst eo
    cases r1 with
    | m ek =>
    rename_i a
    obtain ⟨xs1, h1, _⟩ := w1.obj kk a _ ek hz
    refine ⟨a, xs1, rfl, h1, hl A ι1 σ H1 ρ M1 _ _ w1 (e.le l1) q1 fun ws M2 ι2 ys H2 l2 w2 hn r2 q2 => ?_⟩
    obtain ⟨us, hus, q2⟩ := q2
    have ek2 : ι2[kk]? = some a := by
      obtain ⟨nn, rfl, _⟩ := l2.ext
      rw [List.getElem?_append_left (List.getElem?_eq_some_iff.mp ek).1]; exact ek
    obtain ⟨xs2, h3, h4⟩ := w2.obj kk a _ ek2 hus
    have hm := List.mem_of_getElem? ek2
    exact h A ι2 H2 M2 kk a xs2 ys us ws _ Q w2 ek2 h3 hus h4 r2 q2 fun z us' zv xs' rx rz qz => k z _ ι2 zv _ ((l1.trans l2).trans (.put hm)) (w2.put (mo := .lst us') ek2 ⟨xs', upd_same, RepUs.le (.put hm) rx⟩) (rz.le (.put hm)) qz
def sAppend : List U → List U → (U → List U → Prop) → Prop := fun us ws Q => ∃ y, ws = [y] ∧ us.length < sizeLine ∧ Q (.p .non) (us ++ [y])
theorem mel_append : MeL rAppend sAppend := fun A ι H M k a xs ys us ws Qs Q w ek h1 h2 rx ry ⟨y, ey, hz, q⟩ kk => by
  subst ey
  cases ry with
  | cons r q' =>
  cases q'
  exact ⟨a, xs, _, rfl, rfl, h1, by rw [rx.len]; exact hz, kk _ _ _ _ (rx.app (.cons r .nil)) (.p .non) q⟩
/-! calls of defs -/
def spU (G : List U → MM → UK → Prop) : Sp := fun vs H Q _ => ∃ A ι M us Qu, Wd A ι H M ∧ RepUs A ι H vs us ∧ G us M Qu ∧ ∀ u M' ι' v H', Le ι H ι' H' → Wd A ι' H' M' → RepU A ι' H' v u → Qu u M' → Q v H'
def uCall (G : List U → MM → UK → Prop) (ul : UA) : UE := fun ρ M Q => ul ρ M fun us M1 => G us M1 Q
theorem le_callU {G : List U → MM → UK → Prop} {E : XK} (ha : LA n tl ul) : LE (tCall (spU G) [] E tl) (uCall G ul) := fun A ι σ H ρ M Qu Q w e q k =>
  ha A ι σ H ρ M _ _ w e q fun us M1 ι1 vs H1 l1 w1 hn r1 q1 => by
    rw [List.append_nil]
    exact ⟨A, ι1, M1, us, _, w1, r1, q1, fun u M2 ι2 v H2 l2 w2 r2 q2 => k u M2 ι2 v H2 (l1.trans l2) w2 r2 q2⟩
def spP (G : List T → (T → Prop) → Prop) : Sp := fun vs H Q _ => ∃ A ts Qt, (∀ x, A x → H x ≠ none) ∧ RepTs A H vs ts ∧ G ts Qt ∧ ∀ t v H', Same H H' → RepT A H' v t → Qt t → Q v H'
def uCallP (G : List T → (T → Prop) → Prop) (ul : UA) : UE := fun ρ M Q => ul ρ M fun us M1 => ∃ ts, pureUs us = some ts ∧ G ts fun t => Q (.p t) M1
/-- of snapshots; what comes is flat -/
def uCallS (G : List T → (T → Prop) → Prop) (ul : UA) : UE := fun ρ M Q => ul ρ M fun us M1 => ∃ ts, sns M1 us = some ts ∧ G ts fun t => (∃ x, vt t = some x) ∧ Q (.p t) M1
theorem Same.le (s : Same H H') : Le ι H ι H' := ⟨⟨[], by simp, by simp⟩, fun x o e _ => s x o e, fun x e => by
  cases q : H x with
  | none => exact absurd q e
  | some o => rw [s x o q]; simp⟩
theorem Wd.same (w : Wd A ι H M) (s : Same H H') : Wd A ι H' M :=
  ⟨w.nd, w.len, fun x hx => (Same.le (ι := ι) s).al x (w.dom x hx), w.na, fun k a ob e1 e2 => (w.obj k a ob e1 e2).le' s.le (by
    obtain ⟨o, ho⟩ := (w.obj k a ob e1 e2).some
    rw [ho, s _ _ ho]) fun x ex => by rw [ex, s _ _ ex]⟩
theorem Wd.domAv (w : Wd A ι H M) : ∀ x, Av A ι x → H x ≠ none := fun x h => by
  rcases h with h | h
  · exact w.dom x h
  · obtain ⟨o, ho⟩ := w.mem_some h
    rw [ho]; simp
theorem le_callP {G : List T → (T → Prop) → Prop} {E : XK} (ha : LA n tl ul) : LE (tCall (spP G) [] E tl) (uCallP G ul) := fun A ι σ H ρ M Qu Q w e q k =>
  ha A ι σ H ρ M _ _ w e q fun us M1 ι1 vs H1 l1 w1 hn r1 ⟨ts, et, q1⟩ => by
    rw [List.append_nil]
    rw [pureUs_eq et] at r1
    exact ⟨Av A ι1, ts, _, w1.domAv, r1.pures, q1, fun t v H2 s r2 q2 => k _ M1 ι1 v H2 (l1.trans s.le) (w1.same s) (.p r2) q2⟩
/-! freezing -/
def frzs (f : U → Option T) : List U → Option (List T)
  | [] => some []
  | u :: r => match f u, frzs f r with
    | some t, some ts => some (t :: ts)
    | _, _ => none
def frzN : Nat → MM → U → Option T
  | _, _, .p t => some t
  | 0, _, .m _ => none
  | n + 1, M, .m k => match M[k]? with
    | some (.lst us) => (frzs (frzN n M) us).map T.lst
    | some (.tup us) => (frzs (frzN n M) us).map T.tup
    | _ => none
theorem frzs_rep {f : U → Option T} {vs : List V} {us : List U} {ts : List T} (r : RepUs A ι H vs us) (h : ∀ v u t, RepU A ι H v u → f u = some t → RepT A H v t) (e : frzs f us = some ts) : RepTs A H vs ts := by
  induction r generalizing ts with
  | nil => simp [frzs] at e; subst e; exact .nil
  | cons r q ih =>
    simp only [frzs] at e
    split at e
    · rename_i h1 h2
      simp at e; subst e
      exact .cons (h _ _ _ r h1) (ih h2)
    · cases e
theorem frz_rep (w : Wd A ι H M) : ∀ {n : Nat} {v : V} {u : U} {t : T}, RepU A ι H v u → frzN n M u = some t → RepT A H v t
  | n, v, .p t', t, .p r, e => by
    cases n <;> simp [frzN] at e <;> subst e <;> exact r.mono fun x o hx ex => ⟨ex, fun z => hx (.inl z)⟩
  | 0, v, .m k, t, r, e => by simp [frzN] at e
  | n + 1, v, .m k, t, r, e => by
    cases r with
    | m q =>
    obtain ⟨o, h1, h2⟩ := w.al q
    have hna := w.na _ (List.mem_of_getElem? q)
    simp only [frzN, h1] at e
    cases o with
    | lst us =>
      simp at e
      obtain ⟨ts, e1, rfl⟩ := e
      obtain ⟨vs, h3, h4⟩ := h2
      exact .lstP hna h3 (frzs_rep h4 (fun v u t r e => frz_rep w r e) e1)
    | tup us =>
      simp at e
      obtain ⟨ts, e1, rfl⟩ := e
      obtain ⟨vs, h3, h4⟩ := h2
      exact .tupP hna h3 (frzs_rep h4 (fun v u t r e => frz_rep w r e) e1)
    | ins => simp at e
    | dK => simp at e
@[simp] theorem frzN_p {n : Nat} {M : MM} {t : T} : frzN n M (.p t) = some t := by cases n <;> rfl
def startU (N : List Str) (us : List U) : UEnv := us.map some ++ List.replicate (N.length - us.length) none
theorem start_rep {N : List Str} {vs : List V} {us : List U} (r : RepUs A ι H vs us) : EnvR A ι H (start N vs) (startU N us) := by
  unfold start startU
  refine Paired.app ?_ ?_
  · exact Paired.mapR (f := some) (F := fun s u => ∃ v, s = some v ∧ RepU A ι H v u) (fun a b q u e => by cases e; exact q) (by
      induction r with
      | nil => exact .nil
      | cons r q ih => exact .cons ⟨_, rfl, r⟩ ih)
  · rw [r.len]
    generalize N.length - us.length = m
    induction m with
    | zero => exact .nil
    | succ m ih => exact .cons (fun u e => by cases e) ih
end
section
variable {P : Program} {w : World} {K : PySem.W.Frag} {mg : Str → Option Value} {base : Heap}
theorem Fun.okU {x qual : Str} {st : Stmt} {f : Addr} {fd : FuncData} {N ps : List Str} {k : Nat} {G : List U → MM → UK → Prop} (F : Fun K x qual st f fd) (S : FnScope N ps (defScope st)) (len : ∀ us M Qu, G us M Qu → us.length = ps.length)
    (hbody : ∀ (cdv : Value) (A : Around) (outer : List Env) (s : Shared) (H : Hp) (E : XK), Room k (A.deeper (envOfC qual (defScope st) s.heap.objs.size f cdv)) →
      ∃ t, PSs (cxOf CX0 P w K mg base N qual (defScope st) f cdv A outer s H E).nox (defBody st) t ∧ ∃ u, LS t u ∧ ∀ us M Qu, G us M Qu → u { nx := fun _ M' => Qu (.p .non) M', rt := Qu } (startU N us) M) : FnOk P w K mg base CX0 (k + 1) f fd ps (spU G) := by
  refine F.ok S (fun vs H Q E h => ?_) (fun cdv A outer s H vs Q E hr h => ?_)
  · obtain ⟨A, ι, M, us, Qu, w1, r, g, _⟩ := h
    rw [r.len]; exact len us M Qu g
  · obtain ⟨B, ι, M, us, Qu, w1, r, g, kk⟩ := h
    obtain ⟨t, ht, u, hu, hb⟩ := hbody cdv A outer s H E hr
    refine ⟨t, ht, hu B ι _ H _ M _ { nx := fun _ M' => Qu (.p .non) M', rt := Qu } w1 (start_rep r) ⟨fun ι1 σ1 H1 ρ1 M1 l1 w1 e1 q1 => kk _ M1 ι1 _ H1 l1 w1 (.p .non) q1, fun ι1 v H1 z M1 l1 w1 r1 q1 => kk z M1 ι1 v H1 l1 w1 r1 q1, fun _ _ _ _ _ _ _ _ q => q.elim, fun _ _ _ _ _ _ _ _ q => q.elim⟩ (hb us M Qu g)⟩
theorem Fun.okP {x qual : Str} {st : Stmt} {f : Addr} {fd : FuncData} {N ps : List Str} {k : Nat} {G : List T → (T → Prop) → Prop} (F : Fun K x qual st f fd) (S : FnScope N ps (defScope st)) (len : ∀ ts Qt, G ts Qt → ts.length = ps.length)
    (hbody : ∀ (cdv : Value) (A : Around) (outer : List Env) (s : Shared) (H : Hp) (E : XK), Room k (A.deeper (envOfC qual (defScope st) s.heap.objs.size f cdv)) →
      ∃ t, PSs (cxOf CX0 P w K mg base N qual (defScope st) f cdv A outer s H E).nox (defBody st) t ∧ ∃ u, LS t u ∧ ∀ ts Qt, G ts Qt → u { nx := fun _ _ => Qt .non, rt := fun z M' => ∃ t, frzN 4 M' z = some t ∧ Qt t } (startU N (ts.map U.p)) []) : FnOk P w K mg base CX0 (k + 1) f fd ps (spP G) := by
  refine F.ok S (fun vs H Q E h => ?_) (fun cdv A outer s H vs Q E hr h => ?_)
  · obtain ⟨A, ts, Qt, hd, r, g, _⟩ := h
    rw [r.len]; exact len ts Qt g
  · obtain ⟨B, ts, Qt, hd, r, g, kk⟩ := h
    obtain ⟨t, ht, u, hu, hb⟩ := hbody cdv A outer s H E hr
    have w0 : Wd B [] H [] := ⟨List.nodup_nil, rfl, hd, fun x hx => by simp at hx, fun k a o e _ => by simp at e⟩
    have same : ∀ {ι1 : List Addr} {H1 : Hp}, Le [] H ι1 H1 → Same H H1 := fun l b o e => l.fr b o e (by simp)
    have r0 : RepUs B [] H vs (ts.map U.p) := RepTs.ups (Paired.mapP r fun _ _ q => q.mono fun x o hx ex => ⟨ex, fun z => z.elim hx (by simp)⟩)
    refine ⟨t, ht, hu B [] _ H _ [] _ { nx := fun _ _ => Qt .non, rt := fun z M' => ∃ t, frzN 4 M' z = some t ∧ Qt t } w0 (start_rep r0) ⟨fun ι1 σ1 H1 ρ1 M1 l1 w1 e1 q1 => kk _ _ H1 (same l1) .non q1, fun ι1 v H1 z M1 l1 w1 r1 ⟨t1, et, q1⟩ => kk t1 v H1 (same l1) (frz_rep w1 r1 et) q1, fun _ _ _ _ _ _ _ _ q => q.elim, fun _ _ _ _ _ _ _ _ q => q.elim⟩ (hb ts Qt g)⟩
end
end L2

namespace L2
open PySem PySem.Spec PyProof.Rows
/-! ### steps of readings over trees, as equations -/
section
variable {ua ub uc : UE} {ut ut' : UT} {ul : UA} {us us' : US} {n : Nat} {M M1 : MM} {u : U} {t : T} {ρ : UEnv} {Q : UK} {QB : Bool → MM → Prop} {QA : List U → MM → Prop} {E : UEnds} {ug : UG}
def OpS (s : T → T → (T → Prop) → Prop) (M : MM) (x y : U) (Q : UK) : Prop := ∃ a b, sn M x = some a ∧ sn M y = some b ∧ s a b fun t => Q (.p t) M
theorem rd_op {s : T → T → (T → Prop) → Prop} : uOp s ua ub ρ M Q = ua ρ M fun x M1 => ub ρ M1 fun y M2 => OpS s M2 x y Q := rfl
theorem rd_opS {s : T → T → (T → Prop) → Prop} {a b : T} : OpS s M (.p a) (.p b) Q = s a b fun t => Q (.p t) M :=
  propext ⟨fun ⟨_, _, e1, e2, h⟩ => by cases e1; cases e2; exact h, fun h => ⟨a, b, rfl, rfl, h⟩⟩
theorem rd_sI {C : Int → Int → Prop} {g : Int → Int → T} {i j : Int} {Q : T → Prop} : sI C g (.int i) (.int j) Q = (C i j ∧ Q (g i j)) :=
  propext ⟨fun ⟨_, _, e1, e2, h⟩ => by cases e1; cases e2; exact h, fun h => ⟨i, j, rfl, rfl, h⟩⟩
theorem rd_sI0 {g : Int → Int → T} {i j : Int} {Q : T → Prop} : sI0 g (.int i) (.int j) Q = Q (g i j) :=
  propext ⟨fun ⟨_, _, e1, e2, h⟩ => by cases e1; cases e2; exact h, fun h => ⟨i, j, rfl, rfl, h⟩⟩
theorem rd_eqI {i j : Int} {Q : T → Prop} : sEq false (.int i) (.int j) Q = Q (.bl (decide (i = j))) := by
  refine propext ⟨fun ⟨x, y, e1, e2, _, h⟩ => ?_, fun h => ⟨_, _, rfl, rfl, rfl, ?_⟩⟩
  · simp [vt] at e1 e2; subst e1 e2; simpa using h
  · simpa using h
theorem rd_neI {i j : Int} {Q : T → Prop} : sEq true (.int i) (.int j) Q = Q (.bl (!decide (i = j))) := by
  refine propext ⟨fun ⟨x, y, e1, e2, _, h⟩ => ?_, fun h => ⟨_, _, rfl, rfl, rfl, ?_⟩⟩
  · simp [vt] at e1 e2; subst e1 e2; simpa using h
  · simpa using h
theorem rd_eqS {i j : Str} {Q : T → Prop} : sEq false (.str i) (.str j) Q = Q (.bl (decide (i = j))) := by
  refine propext ⟨fun ⟨x, y, e1, e2, _, h⟩ => ?_, fun h => ⟨_, _, rfl, rfl, rfl, ?_⟩⟩
  · simp [vt] at e1 e2; subst e1 e2; simpa using h
  · simpa using h
theorem rd_neS {i j : Str} {Q : T → Prop} : sEq true (.str i) (.str j) Q = Q (.bl (!decide (i = j))) := by
  refine propext ⟨fun ⟨x, y, e1, e2, _, h⟩ => ?_, fun h => ⟨_, _, rfl, rfl, rfl, ?_⟩⟩
  · simp [vt] at e1 e2; subst e1 e2; simpa using h
  · simpa using h
theorem rd_eqB {i j : Bool} {Q : T → Prop} : sEq false (.bl i) (.bl j) Q = Q (.bl (decide (i = j))) := by
  refine propext ⟨fun ⟨x, y, e1, e2, _, h⟩ => ?_, fun h => ⟨_, _, rfl, rfl, rfl, ?_⟩⟩
  · simp [vt] at e1 e2; subst e1 e2; simpa using h
  · simpa using h
theorem rd_neB {i j : Bool} {Q : T → Prop} : sEq true (.bl i) (.bl j) Q = Q (.bl (!decide (i = j))) := by
  refine propext ⟨fun ⟨x, y, e1, e2, _, h⟩ => ?_, fun h => ⟨_, _, rfl, rfl, rfl, ?_⟩⟩
  · simp [vt] at e1 e2; subst e1 e2; simpa using h
  · simpa using h
def VarS (o : Option (Option U)) (M : MM) (Q : UK) : Prop := ∃ u, o = some (some u) ∧ Q u M
theorem rd_var {i : Nat} : uVar i ρ M Q = VarS ρ[i]? M Q := rfl
theorem rd_varS : VarS (some (some u)) M Q = Q u M := propext ⟨fun ⟨_, e, h⟩ => by cases e; exact h, fun h => ⟨u, rfl, h⟩⟩
def IntS (x : U) (R : Int → Prop) : Prop := ∃ i, x = .p (.int i) ∧ R i
theorem rd_intS {i : Int} {R : Int → Prop} : IntS (.p (.int i)) R = R i := propext ⟨fun ⟨_, e, h⟩ => by cases e; exact h, fun h => ⟨i, rfl, h⟩⟩
def BlS (x : U) (R : Bool → Prop) : Prop := ∃ b, x = .p (.bl b) ∧ R b
theorem rd_blS {b : Bool} {R : Bool → Prop} : BlS (.p (.bl b)) R = R b := propext ⟨fun ⟨_, e, h⟩ => by cases e; exact h, fun h => ⟨b, rfl, h⟩⟩
theorem rd_neg : uNeg ua ρ M Q = ua ρ M fun x M1 => IntS x fun i => Q (.p (.int (-i))) M1 := rfl
theorem rd_bits : uBits ua ρ M Q = ua ρ M fun x M1 => IntS x fun i => Q (.p (.int (Builtin.Int.intBits i))) M1 := rfl
theorem rd_b : uB ua ρ M QB = ua ρ M fun x M1 => BlS x fun b => QB b M1 := rfl
theorem rd_andV : uAndV ua ub ρ M Q = ua ρ M fun x M1 => BlS x fun c => if c = true then ub ρ M1 Q else Q (.p (.bl false)) M1 := rfl
theorem rd_orV : uOrV ua ub ρ M Q = ua ρ M fun x M1 => BlS x fun c => if c = true then Q (.p (.bl true)) M1 else ub ρ M1 Q := rfl
theorem rd_notV : uNotV ua ρ M Q = ua ρ M fun x M1 => BlS x fun c => Q (.p (.bl (!c))) M1 := rfl
/-- a chain's second step -/
def ChS (s' : T → T → (T → Prop) → Prop) (uc : UE) (ρ : UEnv) (M : MM) (y : U) (Q : UK) (z : T) : Prop := ∃ k, z = .bl k ∧ if k = true then uc ρ M fun c M3 => OpS s' M3 y c Q else Q (.p (.bl false)) M
theorem rd_chain {s s' : T → T → (T → Prop) → Prop} : uChain s s' ua ub uc ρ M Q = ua ρ M fun x M1 => ub ρ M1 fun y M2 => OpS s M2 x y fun z _ => ∃ t, z = .p t ∧ ChS s' uc ρ M2 y Q t :=
  propext (by
    have e : ∀ (x y : U) (M2 : MM), (∃ a b, sn M2 x = some a ∧ sn M2 y = some b ∧ s a b fun z => ∃ k, z = .bl k ∧ if k = true then uc ρ M2 fun c M3 => ∃ b' c', sn M3 y = some b' ∧ sn M3 c = some c' ∧ s' b' c' fun t => Q (.p t) M3 else Q (.p (.bl false)) M2) = (OpS s M2 x y fun z _ => ∃ t, z = .p t ∧ ChS s' uc ρ M2 y Q t) := fun x y M2 => by
      unfold OpS ChS
      have : ∀ z : T, (∃ t, U.p z = .p t ∧ ∃ k, t = .bl k ∧ if k = true then uc ρ M2 fun c M3 => OpS s' M3 y c Q else Q (.p (.bl false)) M2) = (∃ k, z = .bl k ∧ if k = true then uc ρ M2 fun c M3 => ∃ b' c', sn M3 y = some b' ∧ sn M3 c = some c' ∧ s' b' c' fun t => Q (.p t) M3 else Q (.p (.bl false)) M2) := fun z =>
        propext ⟨fun ⟨t, e, h⟩ => by cases e; exact h, fun h => ⟨z, rfl, h⟩⟩
      simp only [this]
    unfold uChain
    simp only [e])
theorem rd_chP {s' : T → T → (T → Prop) → Prop} {y : U} {b : Bool} : (∃ t, U.p (.bl b) = .p t ∧ ChS s' uc ρ M y Q t) = if b = true then uc ρ M fun c M3 => OpS s' M3 y c Q else Q (.p (.bl false)) M :=
  propext ⟨fun ⟨t, e, k, e2, h⟩ => by cases e; cases e2; exact h, fun h => ⟨_, rfl, b, rfl, h⟩⟩
def PurS (us : List U) (R : List T → Prop) : Prop := ∃ ts, pureUs us = some ts ∧ R ts
theorem rd_purS {ts : List T} {R : List T → Prop} : PurS (ts.map U.p) R = R ts := propext ⟨fun ⟨_, e, h⟩ => by rw [pureUs_map] at e; cases e; exact h, fun h => ⟨ts, pureUs_map ts, h⟩⟩
theorem rd_pur0 {R : List T → Prop} : PurS [] R = R [] := rd_purS (ts := [])
theorem rd_purC {a : T} {us : List U} {R : List T → Prop} : PurS (.p a :: us) R = PurS us fun ts => R (a :: ts) := by
  refine propext ⟨fun ⟨ts, e, h⟩ => ?_, fun ⟨ts, e, h⟩ => ⟨a :: ts, by simp [pureUs, e], h⟩⟩
  simp [pureUs] at e
  obtain ⟨r, e1, rfl⟩ := e
  exact ⟨r, e1, h⟩
theorem rd_tup : uTup ul ρ M Q = ul ρ M fun us M1 => PurS us fun ts => Q (.p (.tup ts)) M1 := rfl
theorem rd_lst : uLst ul ρ M Q = ul ρ M fun us M1 => PurS us fun ts => Q (.p (.lst ts)) M1 := rfl
def IxS (it : MM → U → Option (List U)) (M : MM) (x y : U) (Q : UK) : Prop := ∃ us i z, it M x = some us ∧ y = .p (.int i) ∧ atI us i = some z ∧ Q z M
theorem rd_ix {it : MM → U → Option (List U)} : uIx it ua ub ρ M Q = ua ρ M fun x M1 => ub ρ M1 fun y M2 => IxS it M2 x y Q := rfl
theorem ix_at {it : MM → U → Option (List U)} {x : U} {us : List U} {i : Int} {z : U} (h1 : it M x = some us) (h2 : atI us i = some z) (q : Q z M) : IxS it M x (.p (.int i)) Q := ⟨us, i, z, h1, rfl, h2, q⟩
theorem atI_map {ts : List T} {i : Int} {t : T} (h : atI ts i = some t) : atI (ts.map U.p) i = some (.p t) := by
  unfold atI at h ⊢
  rw [List.length_map]
  cases e : ixN ts.length i with
  | none => rw [e] at h; cases h
  | some j => rw [e] at h; simp at h ⊢; rw [h]
theorem ixl_at {ts : List T} {i : Int} {t : T} (h : atI ts i = some t) (q : Q (.p t) M) : IxS itemsL M (.p (.lst ts)) (.p (.int i)) Q := ix_at rfl (atI_map h) q
theorem ixt_at {ts : List T} {i : Int} {t : T} (h : atI ts i = some t) (q : Q (.p t) M) : IxS itemsT M (.p (.tup ts)) (.p (.int i)) Q := ix_at rfl (atI_map h) q
def SnsS (M : MM) (us : List U) (R : List T → Prop) : Prop := ∃ ts, sns M us = some ts ∧ R ts
theorem rd_sns0 {R : List T → Prop} : SnsS M [] R = R [] := propext ⟨fun ⟨_, e, h⟩ => by cases e; exact h, fun h => ⟨[], rfl, h⟩⟩
theorem rd_snsC {a : T} {us : List U} {R : List T → Prop} : SnsS M (.p a :: us) R = SnsS M us fun ts => R (a :: ts) := by
  refine propext ⟨fun ⟨ts, e, h⟩ => ?_, fun ⟨ts, e, h⟩ => ⟨a :: ts, by simp [sns, sn, e], h⟩⟩
  simp only [sns, sn] at e
  cases q : sns M us with
  | none => rw [q] at e; cases e
  | some r => rw [q] at e; simp at e; subst e; exact ⟨r, q, h⟩
theorem rd_cb {s : List T → (T → Prop) → Prop} : uCb s ul ρ M Q = ul ρ M fun us M1 => SnsS M1 us fun ts => s ts fun t => Q (.p t) M1 := rfl
theorem rd_abs' {i : Int} {Q : T → Prop} : sAbs [.int i] Q = Q (.int (if i < 0 then -i else i)) := propext ⟨fun ⟨_, e, h⟩ => by cases e; exact h, fun h => ⟨i, rfl, h⟩⟩
theorem rd_min' {i j : Int} {Q : T → Prop} : sMin [.int i, .int j] Q = Q (.int (if j < i then j else i)) := propext ⟨fun ⟨_, _, e, h⟩ => by cases e; exact h, fun h => ⟨i, j, rfl, h⟩⟩
theorem rd_max' {i j : Int} {Q : T → Prop} : sMax [.int i, .int j] Q = Q (.int (if j > i then j else i)) := propext ⟨fun ⟨_, _, e, h⟩ => by cases e; exact h, fun h => ⟨i, j, rfl, h⟩⟩
theorem rd_int' {i : Int} {Q : T → Prop} : sInt [.int i] Q = Q (.int i) := by
  refine propext ⟨fun h => ?_, fun h => Or.inl ⟨i, rfl, h⟩⟩
  rcases h with ⟨_, e, h⟩ | ⟨_, e, h⟩
  · cases e; exact h
  · cases e
theorem rd_intB {k : Bool} {Q : T → Prop} : sInt [.bl k] Q = Q (.int (if k then 1 else 0)) := by
  refine propext ⟨fun h => ?_, fun h => Or.inr ⟨k, rfl, h⟩⟩
  rcases h with ⟨_, e, h⟩ | ⟨_, e, h⟩
  · cases e
  · cases e; exact h
def LenS (it : MM → U → Option (List U)) (M : MM) (us : List U) (Q : UK) : Prop := ∃ x ys, us = [x] ∧ it M x = some ys ∧ Q (.p (.int ys.length)) M
theorem rd_len {it : MM → U → Option (List U)} : uLen it ul ρ M Q = ul ρ M fun us M1 => LenS it M1 us Q := rfl
theorem rd_lenP {ts : List T} : LenS itemsL M [.p (.lst ts)] Q = Q (.p (.int ts.length)) M :=
  propext ⟨fun ⟨_, _, e1, e2, h⟩ => by cases e1; cases e2; rw [List.length_map] at h; exact h, fun h => ⟨_, _, rfl, rfl, by rw [List.length_map]; exact h⟩⟩
theorem len_at' {k : Nat} {us : List U} (e : M[k]? = some (.lst us)) (h : Q (.p (.int us.length)) M) : LenS itemsL M [.m k] Q := ⟨_, _, rfl, by simp [itemsL, e], h⟩
def SlS (M : MM) (x : U) (l h : Option Int) (Q : UK) : Prop := ∃ ts, sn M x = some (.lst ts) ∧ Q (.p (.lst (cutT ts l h))) M
theorem rd_sl {u1 u2 : UO} : uSl ua u1 u2 ρ M Q = ua ρ M fun x M1 => u1 ρ M1 fun l M2 => u2 ρ M2 fun h M3 => SlS M3 x l h Q := rfl
theorem rd_slS {ts : List T} {l h : Option Int} : SlS M (.p (.lst ts)) l h Q = Q (.p (.lst (cutT ts l h))) M := propext ⟨fun ⟨_, e, h⟩ => by cases e; exact h, fun h => ⟨ts, rfl, h⟩⟩
theorem rd_part {QO : Option Int → MM → Prop} : uPart ua ρ M QO = ua ρ M fun x M1 => IntS x fun i => QO (some i) M1 := rfl
theorem rd_noPart {QO : Option Int → MM → Prop} : uNoPart ρ M QO = QO none M := rfl
theorem rd_cat {xs ys : List T} {Q : T → Prop} : sCat (.lst xs) (.lst ys) Q = (xs.length + ys.length ≤ sizeLine ∧ Q (.lst (xs ++ ys))) := propext ⟨fun ⟨_, _, e1, e2, h⟩ => by cases e1; cases e2; exact h, fun h => ⟨xs, ys, rfl, rfl, h⟩⟩
theorem rd_str {i j : Str} {Q : T → Prop} : sStr (.str i) (.str j) Q = (i.length + j.length ≤ sizeLine ∧ Q (.str (i ++ j))) := propext ⟨fun ⟨_, _, e1, e2, h⟩ => by cases e1; cases e2; exact h, fun h => ⟨i, j, rfl, rfl, h⟩⟩
/-! iterators -/
def itU (x : U) (us : List U) : UIt := ⟨us.length, fun M => itemsL M x = some us, fun i z => us[i]? = some z⟩
def IterS (M : MM) (x : U) (R : UIt → MM → Prop) : Prop := ∃ us, itemsL M x = some us ∧ R (itU x us) M
theorem rd_iter {R : UIt → MM → Prop} : uIter ua ρ M R = ua ρ M fun x M1 => IterS M1 x R := rfl
theorem rd_iterP {ts : List T} {R : UIt → MM → Prop} : IterS M (.p (.lst ts)) R = R (itU (.p (.lst ts)) (ts.map U.p)) M := propext ⟨fun ⟨_, e, h⟩ => by cases e; exact h, fun h => ⟨_, rfl, h⟩⟩
def itR0 (n : Nat) : UIt := ⟨n, fun _ => True, fun i z => z = .p (.int i)⟩
def RngS (us : List U) (M : MM) (R : UIt → MM → Prop) : Prop := ∃ j : Int, us = [.p (.int j)] ∧ -(2 ^ 62) ≤ j ∧ j < 2 ^ 62 ∧ R (itR0 j.toNat) M
theorem rd_rng1 {R : UIt → MM → Prop} : uRng1 ul ρ M R = ul ρ M fun us M1 => RngS us M1 R := rfl
theorem rng_at {j : Int} {R : UIt → MM → Prop} (h1 : -(2 ^ 62) ≤ j) (h2 : j < 2 ^ 62) (q : R (itR0 j.toNat) M) : RngS [.p (.int j)] M R := ⟨j, rfl, h1, h2, q⟩
theorem ufor_list {ts : List T} {ub : US} (Iv : Nat → UEnv → MM → Prop) (h0 : Iv 0 ρ M) (hs : ∀ i t ρ2 M2, ts[i]? = some t → Iv i ρ2 M2 → ug (.p t) ρ2 M2 fun ρ3 M3 => ub { E with nx := Iv (i + 1), ct := Iv (i + 1), bk := E.nx } ρ3 M3) (hd : ∀ ρ2 M2, Iv ts.length ρ2 M2 → E.nx ρ2 M2) : UFor (itU (.p (.lst ts)) (ts.map U.p)) ug ub E ρ M := by
  refine ⟨Iv, h0, fun i ρ2 M2 hi h => ⟨rfl, fun u hu => ?_⟩, fun ρ2 M2 h => ⟨rfl, hd ρ2 M2 (by simpa [itU] using h)⟩⟩
  have hu : (ts.map U.p)[i]? = some u := hu
  rw [List.getElem?_map] at hu
  cases e : ts[i]? with
  | none => rw [e] at hu; cases hu
  | some t => rw [e] at hu; cases hu; exact hs i t ρ2 M2 e h
theorem ufor_rng {m : Nat} {ub : US} (Iv : Nat → UEnv → MM → Prop) (h0 : Iv 0 ρ M) (hs : ∀ (i : Nat) ρ2 M2, i < m → Iv i ρ2 M2 → ug (.p (.int i)) ρ2 M2 fun ρ3 M3 => ub { E with nx := Iv (i + 1), ct := Iv (i + 1), bk := E.nx } ρ3 M3) (hd : ∀ ρ2 M2, Iv m ρ2 M2 → E.nx ρ2 M2) : UFor (itR0 m) ug ub E ρ M :=
  ⟨Iv, h0, fun i ρ2 M2 hi h => ⟨trivial, fun u hu => by cases (show u = _ from hu); exact hs i ρ2 M2 hi h⟩, fun ρ2 M2 h => ⟨trivial, hd ρ2 M2 h⟩⟩
/-! tuples as targets -/
def T2S (M : MM) (u : U) (R : U → U → Prop) : Prop := ∃ a b, itemsT M u = some [a, b] ∧ R a b
def T3S (M : MM) (u : U) (R : U → U → U → Prop) : Prop := ∃ a b c, itemsT M u = some [a, b, c] ∧ R a b c
theorem rd_name2 {i j : Nat} {R : UEnv → MM → Prop} : uName2 i j u ρ M R = T2S M u fun a b => R ((ρ.set i (some a)).set j (some b)) M := rfl
theorem rd_name3 {i j k : Nat} {R : UEnv → MM → Prop} : uName3 i j k u ρ M R = T3S M u fun a b c => R (((ρ.set i (some a)).set j (some b)).set k (some c)) M := rfl
theorem rd_t2 {a b : T} {R : U → U → Prop} : T2S M (.p (.tup [a, b])) R = R (.p a) (.p b) := propext ⟨fun ⟨_, _, e, h⟩ => by cases e; exact h, fun h => ⟨_, _, rfl, h⟩⟩
theorem rd_t3 {a b c : T} {R : U → U → U → Prop} : T3S M (.p (.tup [a, b, c])) R = R (.p a) (.p b) (.p c) := propext ⟨fun ⟨_, _, _, e, h⟩ => by cases e; exact h, fun h => ⟨_, _, _, rfl, h⟩⟩
/-! calls -/
theorem rd_callP {G : List T → (T → Prop) → Prop} : uCallP G ul ρ M Q = ul ρ M fun us M1 => PurS us fun ts => G ts fun t => Q (.p t) M1 := rfl
theorem rd_callS {G : List T → (T → Prop) → Prop} : uCallS G ul ρ M Q = ul ρ M fun us M1 => SnsS M1 us fun ts => G ts fun t => (∃ x, vt t = some x) ∧ Q (.p t) M1 := rfl
theorem rd_callU {G : List U → MM → UK → Prop} : uCall G ul ρ M Q = ul ρ M fun us M1 => G us M1 Q := rfl
def MeS (s : List U → List U → (U → List U → Prop) → Prop) (ul : UA) (ρ : UEnv) (M : MM) (o : U) (Q : UK) : Prop := ∃ k, o = .m k ∧ (∃ zs, M[k]? = some (.lst zs)) ∧ ul ρ M fun ws M2 => ∃ us, M2[k]? = some (.lst us) ∧ s us ws fun z us' => Q z (M2.set k (.lst us'))
theorem rd_me {s : List U → List U → (U → List U → Prop) → Prop} : uMe s ua ul ρ M Q = ua ρ M fun o M1 => MeS s ul ρ M1 o Q := rfl
theorem me_at {s : List U → List U → (U → List U → Prop) → Prop} {k : Nat} {zs : List U} (e : M[k]? = some (.lst zs)) (h : ul ρ M fun ws M2 => ∃ us, M2[k]? = some (.lst us) ∧ s us ws fun z us' => Q z (M2.set k (.lst us'))) : MeS s ul ρ M (.m k) Q := ⟨k, rfl, ⟨zs, e⟩, h⟩
theorem rd_app {us : List U} {y : U} {Q : U → List U → Prop} : sAppend us [y] Q = (us.length < sizeLine ∧ Q (.p .non) (us ++ [y])) := propext ⟨fun ⟨_, e, h⟩ => by cases e; exact h, fun h => ⟨y, rfl, h⟩⟩
theorem ss {α : Type} {a : α} {R : α → Prop} : (∃ x, some a = some x ∧ R x) = R a := propext ⟨fun ⟨_, e, h⟩ => by cases e; exact h, fun h => ⟨a, rfl, h⟩⟩
end
end L2

namespace L2
open PySem PySem.Spec PyProof.Rows
/-! ### == of trees; what a def leaves of its own -/
inductive EqT : Nat → T → T → Bool → Prop
  | flat {n : Nat} {a b : T} {x y : V} : vt a = some x → vt b = some y → EqT n a b (eqV x y)
  | tup {n : Nat} {xs ys : List T} {e : Nat → Bool} : (∀ (j : Nat) x y, xs[j]? = some x → ys[j]? = some y → EqT n x y (e j)) → EqT (n + 1) (.tup xs) (.tup ys) ((List.range (min xs.length ys.length)).all e && xs.length == ys.length)
  | lst {n : Nat} {xs ys : List T} {e : Nat → Bool} : xs.length = ys.length → (∀ (j : Nat) x y, xs[j]? = some x → ys[j]? = some y → EqT n x y (e j)) → EqT (n + 1) (.lst xs) (.lst ys) ((List.range xs.length).all e)
  | lstN {n : Nat} {xs ys : List T} : xs.length ≠ ys.length → EqT (n + 1) (.lst xs) (.lst ys) false
section
variable {A : Addr → Prop} {H H' : Hp} {ι ι' : List Addr} {M M' : MM} {v : V} {u : U} {t : T} {K : PySem.W.Frag} {n : Nat}
theorem RepT.inj {a b : T} (r : RepT A H v a) : RepT A H v b → a = b := by
  induction r generalizing b with
  | non => intro q; cases q; rfl
  | bl => intro q; cases q; rfl
  | int => intro q; cases q; rfl
  | str => intro q; cases q; rfl
  | tup na e l r ih =>
    intro q
    cases q with
    | tup na' e' l' r' =>
      rw [e] at e'; cases e'
      congr 1
      refine List.ext_getElem (by omega) fun i h1 h2 => ?_
      have h3 := h1
      rw [← l] at h3
      exact ih i _ _ (List.getElem?_eq_getElem h3) (List.getElem?_eq_getElem h1) (r' i _ _ (List.getElem?_eq_getElem h3) (List.getElem?_eq_getElem h2))
    | lst na' e' l' r' => rw [e] at e'; cases e'
  | lst na e l r ih =>
    intro q
    cases q with
    | lst na' e' l' r' =>
      rw [e] at e'; cases e'
      congr 1
      refine List.ext_getElem (by omega) fun i h1 h2 => ?_
      have h3 := h1
      rw [← l] at h3
      exact ih i _ _ (List.getElem?_eq_getElem h3) (List.getElem?_eq_getElem h1) (r' i _ _ (List.getElem?_eq_getElem h3) (List.getElem?_eq_getElem h2))
    | tup na' e' l' r' => rw [e] at e'; cases e'
theorem eqV_self : ∀ {x : V} {t : T}, vt t = some x → eqV x x = true := fun {x t} h => by cases vt_rep h <;> simp [eqV]
theorem EqT.self {a b : T} {r : Bool} (h : EqT n a b r) : a = b → r = true := by
  induction h with
  | flat h1 h2 => intro e; subst e; rw [h1] at h2; cases h2; exact eqV_self h1
  | @tup n xs ys e hh ih =>
    intro q
    cases q
    simp only [Nat.min_self, beq_self_eq_true, Bool.and_true, List.all_eq_true, List.mem_range]
    intro j hj
    exact ih j _ _ (List.getElem?_eq_getElem hj) (List.getElem?_eq_getElem hj) rfl
  | @lst n xs ys e hl hh ih =>
    intro q
    cases q
    simp only [List.all_eq_true, List.mem_range]
    intro j hj
    exact ih j _ _ (List.getElem?_eq_getElem hj) (List.getElem?_eq_getElem hj) rfl
  | lstN hl => intro q; cases q; exact absurd rfl hl
theorem EqT.de {a b : T} {r : Bool} (h : EqT n a b r) : ∀ {x y : V}, RepT A H x a → RepT A H y b → DE K H n x y r := by
  induction h with
  | @flat n a b x0 y0 h1 h2 =>
    intro x y r1 r2
    cases (RepV.of r1).sc (y := .non) h1; cases (RepV.of r2).sc (y := .non) h2
    exact .flat (by cases vt_rep h1 <;> rfl) (by cases vt_rep h2 <;> rfl)
  | @tup n xs ys e hh ih =>
    intro x y r1 r2
    obtain ⟨p, vs, rfl, _, h1, q1⟩ := r1.tup_inv
    obtain ⟨p2, vs2, rfl, _, h2, q2⟩ := r2.tup_inv
    by_cases hp : p = p2
    · subst hp
      have := (EqT.tup (n := n) hh).self (r1.inj r2)
      rw [this]; exact .same
    · have := DE.tup (K := K) (H := H) (n := n) (e := e) hp (SqT.of h1) (SqT.of h2) fun j x y hx hy => by
        obtain ⟨a, ha, ra⟩ := Paired.getL q1 hx
        obtain ⟨b, hb, rb⟩ := Paired.getL q2 hy
        exact ih j a b ha hb ra rb
      rw [q1.len, q2.len] at this
      exact this
  | @lst n xs ys e hl hh ih =>
    intro x y r1 r2
    obtain ⟨p, vs, rfl, _, h1, q1⟩ := r1.lst_inv
    obtain ⟨p2, vs2, rfl, _, h2, q2⟩ := r2.lst_inv
    by_cases hp : p = p2
    · subst hp
      have := (EqT.lst (n := n) hl hh).self (r1.inj r2)
      rw [this]; exact .same
    · have := DE.lst (K := K) (H := H) (n := n) (e := e) hp (SqL.of h1) (SqL.of h2) (by rw [q1.len, q2.len, hl]) fun j x y hx hy => by
        obtain ⟨a, ha, ra⟩ := Paired.getL q1 hx
        obtain ⟨b, hb, rb⟩ := Paired.getL q2 hy
        exact ih j a b ha hb ra rb
      rw [q1.len] at this
      exact this
  | @lstN n xs ys hl =>
    intro x y r1 r2
    obtain ⟨p, vs, rfl, _, h1, q1⟩ := r1.lst_inv
    obtain ⟨p2, vs2, rfl, _, h2, q2⟩ := r2.lst_inv
    by_cases hp : p = p2
    · subst hp
      have := r1.inj r2
      cases this
      exact absurd rfl hl
    · exact .lstN hp (SqL.of h1) (SqL.of h2) (by rw [q1.len, q2.len]; exact hl)
abbrev intsT (ns : List Int) : T := .lst (ns.map T.int)
/-! what is left behind a def: its own things go -/
def frzB (b : Nat) : Nat → MM → U → Option T
  | _, _, .p t => some t
  | 0, _, .m _ => none
  | n + 1, M, .m k => if b ≤ k then match M[k]? with
    | some (.lst us) => (frzs (frzB b n M) us).map T.lst
    | some (.tup us) => (frzs (frzB b n M) us).map T.tup
    | _ => none else none
@[simp] theorem frzB_p {b n : Nat} {M : MM} {t : T} : frzB b n M (.p t) = some t := by cases n <;> rfl
theorem frzs_rep2 {A' : Addr → Prop} {f : U → Option T} {vs : List V} {us : List U} {ts : List T} (r : RepUs A ι H vs us) (h : ∀ v u t, RepU A ι H v u → f u = some t → RepT A' H v t) (e : frzs f us = some ts) : RepTs A' H vs ts := by
  induction r generalizing ts with
  | nil => simp [frzs] at e; subst e; exact .nil
  | cons r q ih =>
    simp only [frzs] at e
    split at e
    · rename_i h1 h2
      simp at e; subst e
      exact .cons (h _ _ _ r h1) (ih h2)
    · cases e
theorem frzB_rep {m : List Addr} (w : Wd A (ι ++ m) H M) : ∀ {n : Nat} {v : V} {u : U} {t : T}, RepU A (ι ++ m) H v u → frzB ι.length n M u = some t → RepT (Av A ι) H v t
  | n, v, .p t', t, .p r, e => by
    rw [frzB_p] at e; cases e
    exact r.mono fun x o hx ex => ⟨ex, fun z => hx (z.elim .inl fun z => .inr (List.mem_append_left _ z))⟩
  | 0, v, .m k, t, r, e => by simp [frzB] at e
  | n + 1, v, .m k, t, r, e => by
    cases r with
    | m q =>
    rename_i a
    obtain ⟨o, h1, h2⟩ := w.al q
    simp only [frzB, h1] at e
    split at e
    · rename_i hk
      have hna : ¬ Av A ι a := fun z => by
        rcases z with z | z
        · exact w.na _ (List.mem_of_getElem? q) z
        · rw [List.getElem?_append_right hk] at q
          have hd := (List.nodup_append.mp w.nd).2.2
          exact hd a z a (List.mem_of_getElem? q) rfl
      cases o with
      | lst us =>
        simp at e
        obtain ⟨ts, e1, rfl⟩ := e
        obtain ⟨vs, h3, h4⟩ := h2
        exact .lstP hna h3 (frzs_rep2 h4 (fun v u t r e => frzB_rep w r e) e1)
      | tup us =>
        simp at e
        obtain ⟨ts, e1, rfl⟩ := e
        obtain ⟨vs, h3, h4⟩ := h2
        exact .tupP hna h3 (frzs_rep2 h4 (fun v u t r e => frzB_rep w r e) e1)
      | ins => simp at e
      | dK => simp at e
    · cases e
def PurO (o : MO) : Prop := ∃ ts : List T, o = .lst (ts.map U.p)
def TrimOk (M M' : MM) : Prop := ∀ (i : Nat) o, i < M.length → M'[i]? = some o → M[i]? = some o ∨ PurO o
theorem RepU.less {m : List Addr} {v0 : V} {H0 : Hp} (r : RepU A (ι ++ m) H v u) (r0 : RepU A ι H0 v0 u) : RepU A ι H v u := by
  cases r with
  | p r => exact .p (r.mono fun x o hx ex => ⟨ex, fun z => hx (z.elim .inl fun z => .inr (List.mem_append_left _ z))⟩)
  | m e =>
    cases r0 with
    | m e0 =>
      rw [List.getElem?_append_left (List.getElem?_eq_some_iff.mp e0).1] at e
      exact .m e
theorem paired_less {α β : Type} {F G L : α → β → Prop} (h : ∀ a a0 b, F a b → G a0 b → L a b) : ∀ {l l0 : List α} {r : List β}, Paired F l r → Paired G l0 r → Paired L l r
  | _, _, _, .nil, .nil => .nil
  | _, _, _, .cons p q, .cons p0 q0 => .cons (h _ _ _ p p0) (paired_less h q q0)
theorem ObjR.less {m : List Addr} {a a0 : Addr} {o : MO} {H0 : Hp} (r : ObjR A (ι ++ m) H a o) (r0 : ObjR A ι H0 a0 o) : ObjR A ι H a o := by
  cases o with
  | lst => obtain ⟨vs, e, r⟩ := r; obtain ⟨_, _, r0⟩ := r0; exact ⟨vs, e, paired_less (fun _ _ _ p q => p.less q) r r0⟩
  | tup => obtain ⟨vs, e, r⟩ := r; obtain ⟨_, _, r0⟩ := r0; exact ⟨vs, e, paired_less (fun _ _ _ p q => p.less q) r r0⟩
  | ins => obtain ⟨dx, gs, e, ed, nd, r⟩ := r; obtain ⟨_, _, _, _, _, r0⟩ := r0; exact ⟨dx, gs, e, ed, fun z => nd (List.mem_append_left _ z), paired_less (fun _ _ _ p q => ⟨p.1, p.2.less q.2⟩) r r0⟩
  | dK => obtain ⟨gs, e, r⟩ := r; obtain ⟨_, _, r0⟩ := r0; exact ⟨gs, e, paired_less (fun _ _ _ p q => ⟨p.1, p.2.less q.2⟩) r r0⟩
theorem Wd.trim {m : List Addr} {H0 : Hp} (w : Wd A (ι ++ m) H M') (w0 : Wd A ι H0 M) (h : TrimOk M M') : Wd A ι H (M'.take M.length) := by
  have hl : M.length ≤ M'.length := by
    have := w.len; rw [List.length_append, w0.len] at this; omega
  refine ⟨(List.nodup_append.mp w.nd).1, by rw [List.length_take, Nat.min_eq_left hl]; exact w0.len, w.dom, fun x hx => w.na x (List.mem_append_left _ hx), fun k a o e1 e2 => ?_⟩
  have hk := (List.getElem?_eq_some_iff.mp e1).1
  rw [List.getElem?_take_of_lt (by rw [← w0.len]; exact hk)] at e2
  have r := w.obj k a o (by rw [List.getElem?_append_left hk]; exact e1) e2
  rcases h k o (by rw [← w0.len]; exact hk) e2 with z | ⟨ts, rfl⟩
  · exact r.less (w0.obj k a o e1 z)
  · obtain ⟨vs, e, q⟩ := r
    refine ⟨vs, e, ?_⟩
    have q2 := q.pures
    exact RepTs.ups (Paired.mapP q2 fun _ _ q => q.mono fun x o hx ex => ⟨ex, fun z => hx (z.elim .inl fun z => .inr (List.mem_append_left _ z))⟩)
end
section
variable {P : Program} {w : World} {K : PySem.W.Frag} {mg : Str → Option Value} {base : Heap}
/-- as okU; the things of its own go -/
theorem Fun.okV {x qual : Str} {st : Stmt} {f : Addr} {fd : FuncData} {N ps : List Str} {k : Nat} {G : List U → MM → UK → Prop} (F : Fun K x qual st f fd) (S : FnScope N ps (defScope st)) (len : ∀ us M Qu, G us M Qu → us.length = ps.length)
    (hbody : ∀ (cdv : Value) (A : Around) (outer : List Env) (s : Shared) (H : Hp) (E : XK), Room k (A.deeper (envOfC qual (defScope st) s.heap.objs.size f cdv)) →
      ∃ t, PSs (cxOf CX0 P w K mg base N qual (defScope st) f cdv A outer s H E).nox (defBody st) t ∧ ∃ u, LS t u ∧ ∀ us M Qu, G us M Qu → u { nx := fun _ M' => TrimOk M M' ∧ Qu (.p .non) (M'.take M.length), rt := fun z M' => TrimOk M M' ∧ ∃ t, frzB M.length 4 M' z = some t ∧ Qu (.p t) (M'.take M.length) } (startU N us) M) : FnOk P w K mg base CX0 (k + 1) f fd ps (spU G) := by
  refine F.ok S (fun vs H Q E h => ?_) (fun cdv A outer s H vs Q E hr h => ?_)
  · obtain ⟨A, ι, M, us, Qu, w1, r, g, _⟩ := h
    rw [r.len]; exact len us M Qu g
  · obtain ⟨B, ι, M, us, Qu, w1, r, g, kk⟩ := h
    obtain ⟨t, ht, u, hu, hb⟩ := hbody cdv A outer s H E hr
    have less : ∀ {ι1 : List Addr} {H1 : Hp}, Le ι H ι1 H1 → Le ι H ι H1 := fun l => ⟨⟨[], by simp, by simp⟩, l.fr, l.al⟩
    refine ⟨t, ht, hu B ι _ H _ M _ { nx := fun _ M' => TrimOk M M' ∧ Qu (.p .non) (M'.take M.length), rt := fun z M' => TrimOk M M' ∧ ∃ t, frzB M.length 4 M' z = some t ∧ Qu (.p t) (M'.take M.length) } w1 (start_rep r) ⟨fun ι1 σ1 H1 ρ1 M1 l1 w2 e1 q1 => ?_, fun ι1 v H1 z M1 l1 w2 r1 q1 => ?_, fun _ _ _ _ _ _ _ _ q => q.elim, fun _ _ _ _ _ _ _ _ q => q.elim⟩ (hb us M Qu g)⟩
    · obtain ⟨tr, q⟩ := q1
      obtain ⟨m, rfl, _⟩ := id l1.ext
      exact kk _ _ ι _ H1 (less l1) (w2.trim w1 tr) (.p .non) q
    · obtain ⟨tr, t1, et, q⟩ := q1
      obtain ⟨m, rfl, _⟩ := id l1.ext
      rw [← w1.len] at et
      exact kk _ _ ι v H1 (less l1) (w2.trim w1 tr) (.p (frzB_rep w2 r1 et)) q
end
end L2

namespace L2
open PySem PySem.Spec PyProof.Rows
/-! ### dicts of ints and texts, remove -/
section
variable {te ta tb tc : TE} {ue ua ub uc : UE} {tl : TA} {ul : UA} {n : Nat} {A : Addr → Prop} {H H' : Hp} {ι ι' : List Addr} {M M' : MM} {v : V} {u : U} {t : T} {σ : St} {ρ : UEnv} {K : PySem.W.Frag}
def keyU : Key → U
  | .inl i => .p (.int i)
  | .inr x => .p (.str x)
def valU (kvs : List (Key × U)) (k : Key) : Option U := (kvs.find? fun kv => decide (kv.1 = k)).map (·.2)
def putU (kvs : List (Key × U)) (k : Key) (y : U) : List (Key × U) := if kvs.any (fun kv => decide (kv.1 = k)) then kvs.map (fun kv => if kv.1 = k then (kv.1, y) else kv) else kvs ++ [(k, y)]
def uPairs : List (UE × UE) → UEnv → MM → (List (U × U) → MM → Prop) → Prop
  | [], _, M, Q => Q [] M
  | (k, v) :: r, ρ, M, Q => k ρ M fun x M1 => v ρ M1 fun y M2 => uPairs r ρ M2 fun ps M3 => Q ((x, y) :: ps) M3
def DGetS (M : MM) (x y : U) (Q : UK) : Prop := ∃ k kvs key w, x = .m k ∧ M[k]? = some (.dK kvs) ∧ y = keyU key ∧ valU kvs key = some w ∧ Q w M
def uDGet (ua ub : UE) : UE := fun ρ M Q => ua ρ M fun x M1 => ub ρ M1 fun y M2 => DGetS M2 x y Q
theorem rd_dget {Q : UK} : uDGet ua ub ρ M Q = ua ρ M fun x M1 => ub ρ M1 fun y M2 => DGetS M2 x y Q := rfl
theorem LA.imp {n : Nat} {ta : TA} {ua ua' : UA} (h : LA n ta ua) (k : ∀ ρ M Q, ua' ρ M Q → ua ρ M Q) : LA n ta ua' := fun A ι σ H ρ M Qu Q w e q kk => h A ι σ H ρ M Qu Q w e (k _ _ _ q) kk
theorem LE.imp {te : TE} {ue ue' : UE} (h : LE te ue) (k : ∀ ρ M Q, ue' ρ M Q → ue ρ M Q) : LE te ue' := fun A ι σ H ρ M Qu Q w e q kk => h A ι σ H ρ M Qu Q w e (k _ _ _ q) kk
def uIfC (c : UT) (t1 t2 : T) : UE := fun ρ M Q => c ρ M fun b M1 => Q (.p (if b = true then t1 else t2)) M1
theorem iteT_int {c : Prop} [Decidable c] {a b : Int} : (if c then T.int a else T.int b) = T.int (if c then a else b) := by split <;> rfl
theorem iteT_str {c : Prop} [Decidable c] {a b : Str} : (if c then T.str a else T.str b) = T.str (if c then a else b) := by split <;> rfl
def itV (x : U) (us : List U) : UIt := ⟨us.length, fun M => itemsL M x = some us, fun i z => us[us.length - 1 - i]? = some z⟩
def RevS (us : List U) (M : MM) (R : UIt → MM → Prop) : Prop := ∃ x ys, us = [x] ∧ itemsL M x = some ys ∧ R (itV x ys) M
theorem rd_rev {R : UIt → MM → Prop} : uRev ul ρ M R = ul ρ M fun us M1 => RevS us M1 R := rfl
theorem rd_revP {ts : List T} {R : UIt → MM → Prop} : RevS [.p (.lst ts)] M R = R (itV (.p (.lst ts)) (ts.map U.p)) M := propext ⟨fun ⟨_, _, e1, e2, h⟩ => by cases e1; cases e2; exact h, fun h => ⟨_, _, rfl, rfl, h⟩⟩
theorem rd_ch {s' : T → T → (T → Prop) → Prop} {y : U} {b : Bool} {Q : UK} : ChS s' uc ρ M y Q (.bl b) = if b = true then uc ρ M fun c M3 => OpS s' M3 y c Q else Q (.p (.bl false)) M :=
  propext ⟨fun ⟨k, e, h⟩ => by cases e; exact h, fun h => ⟨b, rfl, h⟩⟩
end
end L2

namespace L2
open PySem PySem.Spec PyProof.Rows
/-! ### tuples of the module, isinstance, == of tuples -/
section
variable {te ta tb tc : TE} {ue ua ub uc : UE} {tl : TA} {ul : UA} {n : Nat} {A : Addr → Prop} {H H' : Hp} {ι ι' : List Addr} {M M' : MM} {v : V} {u : U} {t : T} {σ : St} {ρ : UEnv} {K : PySem.W.Frag}
def uIxK (ts : List T) (ub : UE) : UE := fun ρ M Q => ub ρ M fun y M1 => IntS y fun i => ∃ t, atI ts i = some t ∧ Q (.p t) M1
def uInK (neg : Bool) (vs : List V) (ua : UE) : UE := fun ρ M Q => ua ρ M fun x M1 => ∃ a, x = .p a ∧ ∃ y, vt a = some y ∧ Q (.p (.bl (if neg then !inV y vs else inV y vs))) M1
/-! isinstance -/
inductive TyC where
  | int | bool | str | list | tuple
def TyC.name : TyC → String
  | .int => "int" | .bool => "bool" | .str => "str" | .list => "list" | .tuple => "tuple"
def isT : T → TyC → Bool
  | .int _, .int => true
  | .bl _, .int => true
  | .bl _, .bool => true
  | .str _, .str => true
  | .lst _, .list => true
  | .tup _, .tuple => true
  | _, _ => false
def isU (M : MM) : U → TyC → Option Bool
  | .p t, c => some (isT t c)
  | .m k, c => match M[k]? with
    | some (.lst _) => some (isT (.lst []) c)
    | some (.tup _) => some (isT (.tup []) c)
    | _ => none
theorem isi_rep {c : TyC} {b : Bool} (w : Wd A ι H M) (r : RepU A ι H v u) (e : isU M u c = some b) : ∃ t, TyOf K H v (.type t) ∧ PySem.W.kitOne K (.type t) (.type c.name) = some b := by
  cases r with
  | p r =>
    simp only [isU, Option.some.injEq] at e
    subst e
    cases r with
    | non => exact ⟨_, .non, by cases c <;> rfl⟩
    | bl b => exact ⟨_, .bl b, by cases c <;> rfl⟩
    | int i => exact ⟨_, .int i, by cases c <;> rfl⟩
    | str x => exact ⟨_, .str x, by cases c <;> rfl⟩
    | tup na e l r => exact ⟨_, .tup e, by cases c <;> rfl⟩
    | lst na e l r => exact ⟨_, .lst e, by cases c <;> rfl⟩
  | m q =>
    obtain ⟨o, h1, h2⟩ := w.al q
    simp only [isU, h1] at e
    cases o with
    | lst us => simp only [Option.some.injEq] at e; subst e; obtain ⟨vs, h3, _⟩ := h2; exact ⟨_, .lst h3, by cases c <;> rfl⟩
    | tup us => simp only [Option.some.injEq] at e; subst e; obtain ⟨vs, h3, _⟩ := h2; exact ⟨_, .tup h3, by cases c <;> rfl⟩
    | ins => simp at e
    | dK => simp at e
def uIsi (c : TyC) (ua : UE) : UE := fun ρ M Q => ua ρ M fun x M1 => ∃ b, isU M1 x c = some b ∧ Q (.p (.bl b)) M1
theorem le_isi (c : TyC) (ha : LE ta ua) : LE (tCB (rIsi K) (tCons ta (tCons (tC (.ty c.name)) tNil))) (uIsi c ua) := fun A ι σ H ρ M Qu Q w e q k =>
  ha A ι σ H ρ M _ _ w e q fun x M1 ι1 v1 H1 l1 w1 r1 ⟨b, eb, q1⟩ => by
    obtain ⟨t, h1, h2⟩ := isi_rep (K := K) w1 r1 eb
    exact ⟨v1, c.name, t, b, rfl, h1, h2, k _ M1 ι1 _ H1 l1 w1 (.p (.bl _)) q1⟩
def uIsi2 (c d : TyC) (ua : UE) : UE := fun ρ M Q => ua ρ M fun x M1 => ∃ b, isU M1 x c = some b ∧ ∃ b', isU M1 x d = some b' ∧ Q (.p (.bl (b || b'))) M1
/-! == of tuples -/
def sEqTu (neg : Bool) : T → T → (T → Prop) → Prop := fun a b Q => ∃ xs ys, ∃ e : Nat → Bool, a = .tup xs ∧ b = .tup ys ∧ (∀ (j : Nat) x y, xs[j]? = some x → ys[j]? = some y → EqT 20 x y (e j)) ∧ Q (.bl (if neg then !((List.range (min xs.length ys.length)).all e && xs.length == ys.length) else ((List.range (min xs.length ys.length)).all e && xs.length == ys.length)))
theorem opl_eqT : OpL (rEqT K) (sEqTu false) := fun A ι H M x y a b Qs Q w r1 r2 ⟨xs, ys, e, ea, eb, he, q⟩ k => by
  subst ea eb
  obtain ⟨p, vs, rfl, h1, q1⟩ := r1.tup_inv
  obtain ⟨p2, vs2, rfl, h2, q2⟩ := r2.tup_inv
  refine ⟨p, p2, vs, vs2, e, rfl, rfl, SqT.of h1, SqT.of h2, fun j x y hx hy => ?_, by rw [q1.len, q2.len]; exact k _ ι _ H (.refl _ _) w (.bl _) q⟩
  obtain ⟨a, ha, ra⟩ := Paired.getL q1 hx
  obtain ⟨b, hb, rb⟩ := Paired.getL q2 hy
  exact (he j a b ha hb).de ra rb
/-! dicts: new, in, put -/
def uDNew : UE := fun _ M Q => Q (.m M.length) (M ++ [.dK []])
def DInS (neg : Bool) (M : MM) (y x : U) (Q : UK) : Prop := ∃ k kvs key, x = .m k ∧ M[k]? = some (.dK kvs) ∧ y = keyU key ∧ Q (.p (.bl (if neg then !(valU kvs key).isSome else (valU kvs key).isSome))) M
def uDIn (neg : Bool) (ua ub : UE) : UE := fun ρ M Q => ua ρ M fun y M1 => ub ρ M1 fun x M2 => DInS neg M2 y x Q
def DPutS (M : MM) (x y v : U) (R : MM → Prop) : Prop := ∃ k kvs key, x = .m k ∧ M[k]? = some (.dK kvs) ∧ y = keyU key ∧ kvs.length < sizeLine ∧ R (M.set k (.dK (putU kvs key v)))
def uDPut (ud uy uv : UE) : US := fun E ρ M => uv ρ M fun v M1 => ud ρ M1 fun x M2 => uy ρ M2 fun y M3 => DPutS M3 x y v fun M4 => E.nx ρ M4
theorem rd_din {neg : Bool} {Q : UK} : uDIn neg ua ub ρ M Q = ua ρ M fun y M1 => ub ρ M1 fun x M2 => DInS neg M2 y x Q := rfl
theorem rd_dput {ud uy uv : UE} {E : UEnds} : uDPut ud uy uv E ρ M = uv ρ M fun v M1 => ud ρ M1 fun x M2 => uy ρ M2 fun y M3 => DPutS M3 x y v fun M4 => E.nx ρ M4 := rfl
def IdxS (us : List U) (xs : List Str) (M : MM) (Q : UK) : Prop := ∃ (t : Str) (j : Nat), us = [.p (.str t)] ∧ xs[j]? = some t ∧ (∀ m, m < j → xs[m]? ≠ some t) ∧ Q (.p (.int j)) M
def uIdxK (xs : List Str) (ul : UA) : UE := fun ρ M Q => ul ρ M fun us M1 => IdxS us xs M1 Q
theorem rd_idxK {xs : List Str} {Q : UK} : uIdxK xs ul ρ M Q = ul ρ M fun us M1 => IdxS us xs M1 Q := rfl
end
end L2

namespace L2
open PySem PySem.Spec PyProof.Rows
/-! ### list(range(a, b)); lists of truths -/
section
variable {te ta tb tc : TE} {ue ua ub uc : UE} {tl : TA} {ul : UA} {n : Nat} {A : Addr → Prop} {H H' : Hp} {ι ι' : List Addr} {M M' : MM} {v : V} {u : U} {t : T} {σ : St} {ρ : UEnv} {K : PySem.W.Frag}
def LRng2S (us : List U) (M : MM) (Q : UK) : Prop := ∃ (i j : Int) (n : Nat), us = [.p (.int i), .p (.int j)] ∧ -(2 ^ 62) ≤ i ∧ j < 2 ^ 62 ∧ j = i + n ∧ n ≤ 1000000 ∧ Q (.p (.lst ((List.range n).map fun k : Nat => T.int (i + k)))) M
def uLRng2 (ul : UA) : UE := fun ρ M Q => ul ρ M fun us M1 => LRng2S us M1 Q
theorem rd_lrng2 {Q : UK} : uLRng2 ul ρ M Q = ul ρ M fun us M1 => LRng2S us M1 Q := rfl
/-! guards: what stands ahead -/
theorem gdIx {it : MM → U → Option (List U)} {x y : U} {Q : UK} (h : IxS it M x y Q) : IxS it M x y Q := h
theorem gdT2 {u : U} {R : U → U → Prop} (h : T2S M u R) : T2S M u R := h
theorem gdT3 {u : U} {R : U → U → U → Prop} (h : T3S M u R) : T3S M u R := h
theorem gdMe {s : List U → List U → (U → List U → Prop) → Prop} {o : U} {Q : UK} (h : MeS s ul ρ M o Q) : MeS s ul ρ M o Q := h
theorem gdLen {it : MM → U → Option (List U)} {us : List U} {Q : UK} (h : LenS it M us Q) : LenS it M us Q := h
end
end L2

namespace L2
open PySem PySem.Spec PyProof.Rows
/-! ### objects -/
section
variable {te ta tb tc tv : TE} {ue ua ub uc uv : UE} {tl : TA} {ul : UA} {n : Nat} {A : Addr → Prop} {H H' : Hp} {ι ι' : List Addr} {M M' : MM} {v : V} {u : U} {t : T} {σ : St} {ρ : UEnv} {K : PySem.W.Frag} {f m : Str} {C : Addr}
abbrev FR (A : Addr → Prop) (ι : List Addr) (H : Hp) : List (Str × V) → List (Str × U) → Prop := Paired (fun (g : Str × V) (f : Str × U) => g.1 = f.1 ∧ RepU A ι H g.2 f.2)
theorem look_rep {gs : List (Str × V)} {fs : List (Str × U)} {u : U} (r : FR A ι H gs fs) (e : fs.lookup f = some u) : ∃ v, gs.lookup f = some v ∧ RepU A ι H v u := by
  induction r with
  | nil => cases e
  | @cons g h gs fs a _ ih =>
    obtain ⟨g1, g2⟩ := g
    obtain ⟨h1, h2⟩ := h
    obtain ⟨e1, r1⟩ := a
    simp only at e1 r1
    subst e1
    rw [List.lookup_cons] at e ⊢
    cases hk : f == g1 with
    | true => rw [hk] at e; cases e; exact ⟨_, rfl, r1⟩
    | false => rw [hk] at e; exact ih e
theorem look_none {gs : List (Str × V)} {fs : List (Str × U)} (r : FR A ι H gs fs) (e : fs.lookup f = none) : gs.lookup f = none := by
  induction r with
  | nil => rfl
  | @cons g h gs fs a _ ih =>
    obtain ⟨g1, g2⟩ := g
    obtain ⟨h1, h2⟩ := h
    obtain ⟨e1, r1⟩ := a
    simp only at e1 r1
    subst e1
    rw [List.lookup_cons] at e ⊢
    cases hk : f == g1 with
    | true => rw [hk] at e; cases e
    | false => rw [hk] at e; exact ih e
def putFU (f : Str) (v : U) : List (Str × U) → List (Str × U)
  | [] => [(f, v)]
  | (g, x) :: r => if g = f then (g, v) :: r else (g, x) :: putFU f v r
theorem putF_rep {gs : List (Str × V)} {fs : List (Str × U)} (r : FR A ι H gs fs) (rv : RepU A ι H v u) : FR A ι H (putF f v gs) (putFU f u fs) := by
  induction r with
  | nil => exact .cons ⟨rfl, rv⟩ .nil
  | @cons g h gs fs a rr ih =>
    obtain ⟨g1, g2⟩ := g
    obtain ⟨h1, h2⟩ := h
    obtain ⟨e1, r1⟩ := a
    simp only at e1 r1
    subst e1
    unfold putF putFU
    by_cases hk : g1 = f
    · rw [if_pos hk, if_pos hk]; exact .cons ⟨rfl, rv⟩ rr
    · rw [if_neg hk, if_neg hk]; exact .cons ⟨rfl, r1⟩ ih
def FldS (K : PySem.W.Frag) (f : Str) (x : U) (M : MM) (Q : UK) : Prop := ∃ k C fs u, x = .m k ∧ M[k]? = some (.ins C fs) ∧ Cls K C ∧ NoAttr K C f ∧ fs.lookup f = some u ∧ Q u M
def uFld (K : PySem.W.Frag) (ua : UE) (f : Str) : UE := fun ρ M Q => ua ρ M fun x M1 => FldS K f x M1 Q
theorem le_fld (ha : LE ta ua) : LE (tFld K ta f) (uFld K ua f) := fun A ι σ H ρ M Qu Q w e q k =>
  ha A ι σ H ρ M _ _ w e q fun x M1 ι1 v1 H1 l1 w1 r1 ⟨kk, C, fs, u, ex, em, c, na, lk, q1⟩ => by
    subst ex
    cases r1 with
    | m ek =>
    obtain ⟨dx, gs, h1, h2, h3, h4⟩ := w1.obj kk _ _ ek em
    obtain ⟨v, hv, rv⟩ := look_rep h4 lk
    exact ⟨_, C, dx, gs, v, rfl, h1, c, na, hv, k _ M1 ι1 v H1 l1 w1 rv q1⟩
def FldPutS (K : PySem.W.Frag) (f : Str) (x y : U) (M : MM) (R : MM → Prop) : Prop := ∃ k C fs, x = .m k ∧ M[k]? = some (.ins C fs) ∧ Cls K C ∧ NoAttr K C f ∧ fs.length < 1000 ∧ R (M.set k (.ins C (putFU f y fs)))
def uFldPut (K : PySem.W.Frag) (ua uv : UE) (f : Str) : US := fun E ρ M => uv ρ M fun y M1 => ua ρ M1 fun x M2 => FldPutS K f x y M2 fun M3 => E.nx ρ M3
theorem ls_fld (ha : LE ta ua) (hv : LE tv uv) : LS (sFld K ta tv f) (uFldPut K ua uv f) := fun A ι σ H ρ M D E w e r q =>
  hv A ι σ H ρ M _ _ w e q fun y M1 ι1 vy H1 l1 w1 r1 q1 => ha A ι1 σ H1 ρ M1 _ _ w1 (e.le l1) q1 fun x M2 ι2 vx H2 l2 w2 r2 ⟨kk, C, fs, ex, em, c, na, hz, q2⟩ => by
    subst ex
    cases r2 with
    | m ek =>
    rename_i a
    obtain ⟨dx, gs, h1, h2, h3, h4⟩ := w2.obj kk _ _ ek em
    have hmem := List.mem_of_getElem? ek
    have l4 := l1.trans l2
    have hne : dx ≠ a := fun z => by rw [z, h1] at h2; cases h2
    refine ⟨a, C, dx, gs, rfl, h1, c, na, by rw [h4.len]; exact hz, r.nx ι2 σ _ ρ _ (l4.trans (.put hmem)) (w2.put (mo := .ins C (putFU f y fs)) ek ⟨dx, _, upd_same, by rw [upd_ne hne]; exact h2, h3, Paired.mapP (putF_rep h4 (r1.le l2)) fun _ _ q => ⟨q.1, q.2.le (.put hmem)⟩⟩) (e.le (l4.trans (.put hmem))) q2⟩
def MethS (C : Addr) (m : Str) (x : U) (M : MM) (R : Prop) : Prop := ∃ k fs, x = .m k ∧ M[k]? = some (.ins C fs) ∧ fs.lookup m = none ∧ R
def uMeth (C : Addr) (m : Str) (G : List U → MM → UK → Prop) (ua : UE) (ul : UA) : UE := fun ρ M Q => ua ρ M fun x M1 => MethS C m x M1 (ul ρ M1 fun us M2 => G (x :: us) M2 Q)
theorem le_meth {G : List U → MM → UK → Prop} {E : XK} (ha : LE ta ua) (hl : LA n tl ul) : LE (tMeth C m (spU G) [] E ta tl) (uMeth C m G ua ul) := fun A ι σ H ρ M Qu Q w e q k =>
  ha A ι σ H ρ M _ _ w e q fun x M1 ι1 v1 H1 l1 w1 r1 ⟨kk, fs, ex, em, lk, q1⟩ => by
    subst ex
    have r1' := r1
    cases r1' with
    | m ek =>
    obtain ⟨dx, gs, h1, h2, h3, h4⟩ := w1.obj kk _ _ ek em
    refine ⟨_, dx, gs, rfl, h1, look_none h4 lk, hl A ι1 σ H1 ρ M1 _ _ w1 (e.le l1) q1 fun us M2 ι2 vs H2 l2 w2 hn r2 q2 => ?_⟩
    rw [List.append_nil]
    exact ⟨A, ι2, M2, _, _, w2, .cons (r1.le l2) r2, q2, fun u M3 ι3 v H3 l3 w3 r3 q3 => k u M3 ι3 v H3 ((l1.trans l2).trans l3) w3 r3 q3⟩
def uMake (C : Addr) (G : List U → MM → UK → Prop) (ul : UA) : UE := fun ρ M Q => ul ρ M fun us M1 => G (.m M1.length :: us) (M1 ++ [.ins C []]) fun v M2 => v = .p .non ∧ Q (.m M1.length) M2
theorem le_make {G : List U → MM → UK → Prop} {E : XK} (hl : LA n tl ul) : LE (tMake C (spU G) [] E tl) (uMake C G ul) := fun A ι σ H ρ M Qu Q w e q k =>
  hl A ι σ H ρ M _ _ w e q fun us M1 ι1 vs H1 l1 w1 hn r1 q1 x dx hx hdx hne => by
    have hx2 : upd H1 dx (.own x) x = none := by rw [upd_ne (Ne.symm hne)]; exact hx
    have l2 : Le ι1 H1 ι1 (upd H1 dx (.own x)) := .fresh hdx
    have w2 := w1.fresh (o := .own x) hdx
    have l3 : Le ι1 (upd H1 dx (.own x)) (ι1 ++ [x]) (upd (upd H1 dx (.own x)) x (.ins C dx [])) := .push hx2
    have w3 : Wd A (ι1 ++ [x]) (upd (upd H1 dx (.own x)) x (.ins C dx [])) (M1 ++ [.ins C []]) := w2.push (mo := .ins C []) hx2 ⟨dx, [], upd_same, by rw [upd_ne hne, upd_same], fun z => by
      rcases List.mem_append.mp z with z | z
      · exact w1.nin hdx z
      · exact hne (List.mem_singleton.mp z), .nil⟩
    have rx : RepU A (ι1 ++ [x]) (upd (upd H1 dx (.own x)) x (.ins C dx [])) (.ref x) (.m M1.length) := .m (by rw [← w1.len]; exact get_last)
    rw [List.append_nil]
    refine ⟨A, ι1 ++ [x], _, _, _, w3, .cons rx (r1.le (l2.trans l3)), q1, fun u M4 ι4 v4 H4 l4 w4 r4 q4 => ?_⟩
    obtain ⟨eu, q4⟩ := q4
    subst eu
    cases r4 with
    | p r4 =>
    cases r4
    exact ⟨rfl, k _ M4 ι4 _ H4 (l1.trans ((l2.trans l3).trans l4)) w4 (rx.le l4) q4⟩
def uNever : US := fun _ _ _ => False
theorem ls_never : LS tRaiseNo uNever := fun A ι σ H ρ M D E w e r q => q.elim
/-- [x] * k, to be changed -/
def RepNS (M : MM) (x y : U) (Q : UK) : Prop := ∃ xs k, x = .p (.lst xs) ∧ y = .p (.int k) ∧ -(2 ^ 63) ≤ k ∧ k < 2 ^ 63 ∧ xs.length * k.toNat ≤ sizeLine ∧ Q (.m M.length) (M ++ [.lst ((List.replicate k.toNat xs).flatten.map U.p)])
def uRepNew (ua ub : UE) : UE := fun ρ M Q => ua ρ M fun x M1 => ub ρ M1 fun y M2 => RepNS M2 x y Q
theorem le_repNew (ha : LE ta ua) (hb : LE tb ub) : LE (tOp rRep ta tb) (uRepNew ua ub) := fun A ι σ H ρ M Qu Q w e q k =>
  ha A ι σ H ρ M _ _ w e q fun x M1 ι1 v H1 l1 w1 r1 q1 => hb A ι1 σ H1 ρ M1 _ _ w1 (e.le l1) q1 fun y M2 ι2 v2 H2 l2 w2 r2 ⟨xs, kk, ex, ey, k0, k1, hz, q2⟩ => by
    subst ex ey
    have r1' := r1.le l2
    cases r1' with
    | p r1 =>
    cases r2 with
    | p r2 =>
    cases r2
    obtain ⟨p, vs, rfl, na, h1, h2⟩ := r1.lst_inv
    refine ⟨p, kk, vs, rfl, rfl, h1, k0, k1, by rw [h2.len]; exact hz, fun l hl => ?_⟩
    have := new_lst w2 hl (RepTs.ups (paired_rep h2 kk.toNat))
    exact k _ _ _ _ _ ((l1.trans l2).trans (.push hl)) this.1 this.2 q2
/-- == of worths -/
def flT : T → Bool
  | .int _ => true
  | .str _ => true
  | _ => false
def sEqW : T → T → (T → Prop) → Prop := fun a b Q => sEq false a b Q ∨ sEqTu false a b Q ∨ (∃ xs, flT a = true ∧ b = .tup xs ∧ Q (.bl false)) ∨ ∃ xs, flT b = true ∧ a = .tup xs ∧ Q (.bl false)
theorem flT_inv {A : Addr → Prop} {H : Hp} {v : V} {t : T} (h : flT t = true) (r : RepV A H v t) : flatIS v = true := by
  cases t with
  | int i => rw [r.int_inv]; rfl
  | str i => rw [r.str_inv]; rfl
  | _ => cases h
theorem opl_eqW : OpL (fun x y H Q => rEq x y H Q ∨ rEqT K x y H Q ∨ rEqFT K x y H Q ∨ rEqTF K x y H Q) sEqW := fun A ι H M x y a b Qs Q w r1 r2 h k => by
  rcases h with h | h | ⟨xs, hf, eb, q⟩ | ⟨xs, hf, ea, q⟩
  · exact .inl (opl_eq A ι H M x y a b Qs Q w r1 r2 h k)
  · exact .inr (.inl (opl_eqT A ι H M x y a b Qs Q w r1 r2 h k))
  · subst eb
    obtain ⟨p, vs, rfl, h1, q1⟩ := r2.tup_inv
    exact .inr (.inr (.inl ⟨p, vs, flT_inv hf r1, rfl, SqT.of h1, k _ ι _ H (.refl _ _) w (.bl _) q⟩))
  · subst ea
    obtain ⟨p, vs, rfl, h1, q1⟩ := r1.tup_inv
    exact .inr (.inr (.inr ⟨p, vs, flT_inv hf r2, rfl, SqT.of h1, k _ ι _ H (.refl _ _) w (.bl _) q⟩))
def SubS (M : MM) (o i u : U) (R : MM → Prop) : Prop := ∃ k us z j, o = .m k ∧ M[k]? = some (.lst us) ∧ i = .p (.int z) ∧ ixN us.length z = some j ∧ R (M.set k (.lst (us.set j u)))
theorem rd_sub {Q : UEnv → MM → Prop} : uSub ua ub u ρ M Q = ua ρ M fun o M1 => ub ρ M1 fun i M2 => SubS M2 o i u fun M3 => Q ρ M3 := rfl
def uName4 (i j k l : Nat) : UG := fun u ρ M Q => ∃ a b c d, itemsT M u = some [a, b, c, d] ∧ Q ((((ρ.set i (some a)).set j (some b)).set k (some c)).set l (some d)) M
def T4S (M : MM) (u : U) (R : U → U → U → U → Prop) : Prop := ∃ a b c d, itemsT M u = some [a, b, c, d] ∧ R a b c d
theorem rd_name4 {i j k l : Nat} {R : UEnv → MM → Prop} : uName4 i j k l u ρ M R = T4S M u fun a b c d => R ((((ρ.set i (some a)).set j (some b)).set k (some c)).set l (some d)) M := rfl
theorem rd_t4 {a b c d : T} {R : U → U → U → U → Prop} : T4S M (.p (.tup [a, b, c, d])) R = R (.p a) (.p b) (.p c) (.p d) := propext ⟨fun ⟨_, _, _, _, e, h⟩ => by cases e; exact h, fun h => ⟨_, _, _, _, rfl, h⟩⟩
/-! a, b = x, y -/
def P2S (us : List U) (R : U → U → Prop) : Prop := ∃ a b, us = [a, b] ∧ R a b
def P3S (us : List U) (R : U → U → U → Prop) : Prop := ∃ a b c, us = [a, b, c] ∧ R a b c
def uPar (i j : Nat) (ul : UA) : US := fun E ρ M => ul ρ M fun us M1 => P2S us fun a b => E.nx ((ρ.set i (some a)).set j (some b)) M1
def uPar3 (i j k : Nat) (ul : UA) : US := fun E ρ M => ul ρ M fun us M1 => P3S us fun a b c => E.nx (((ρ.set i (some a)).set j (some b)).set k (some c)) M1
theorem ls_par {i j : Nat} (hl : LA n tl ul) : LS (tPar i j tl) (uPar i j ul) := fun A ι σ H ρ M D E w e r q =>
  hl A ι σ H ρ M _ _ w e q fun us M1 ι1 vs H1 l1 w1 hn r1 ⟨a, b, eu, q1⟩ => by
    subst eu
    obtain ⟨x, y, rfl, ra, rb⟩ := rep2 r1
    exact ⟨x, y, rfl, r.nx ι1 _ H1 _ M1 l1 w1 (((e.le l1).put i ra).put j rb) q1⟩
theorem rd_par {i j : Nat} {E : UEnds} : uPar i j ul E ρ M = ul ρ M fun us M1 => P2S us fun a b => E.nx ((ρ.set i (some a)).set j (some b)) M1 := rfl
theorem rd_par3 {i j k : Nat} {E : UEnds} : uPar3 i j k ul E ρ M = ul ρ M fun us M1 => P3S us fun a b c => E.nx (((ρ.set i (some a)).set j (some b)).set k (some c)) M1 := rfl
theorem rd_p2 {a b : U} {R : U → U → Prop} : P2S [a, b] R = R a b := propext ⟨fun ⟨_, _, e, h⟩ => by cases e; exact h, fun h => ⟨a, b, rfl, h⟩⟩
theorem rd_p3 {a b c : U} {R : U → U → U → Prop} : P3S [a, b, c] R = R a b c := propext ⟨fun ⟨_, _, _, e, h⟩ => by cases e; exact h, fun h => ⟨a, b, c, rfl, h⟩⟩
theorem rd_fld {Q : UK} : uFld K ua f ρ M Q = ua ρ M fun x M1 => FldS K f x M1 Q := rfl
theorem rd_fldPut {E : UEnds} : uFldPut K ua uv f E ρ M = uv ρ M fun y M1 => ua ρ M1 fun x M2 => FldPutS K f x y M2 fun M3 => E.nx ρ M3 := rfl
theorem rd_meth {G : List U → MM → UK → Prop} {Q : UK} : uMeth C m G ua ul ρ M Q = ua ρ M fun x M1 => MethS C m x M1 (ul ρ M1 fun us M2 => G (x :: us) M2 Q) := rfl
theorem rd_make {G : List U → MM → UK → Prop} {Q : UK} : uMake C G ul ρ M Q = ul ρ M fun us M1 => G (.m M1.length :: us) (M1 ++ [.ins C []]) fun v M2 => v = .p .non ∧ Q (.m M1.length) M2 := rfl
theorem rd_repNew {Q : UK} : uRepNew ua ub ρ M Q = ua ρ M fun x M1 => ub ρ M1 fun y M2 => RepNS M2 x y Q := rfl
theorem fldU_at {k : Nat} {fs : List (Str × U)} {u : U} {Q : UK} (c : Cls K C) (na : NoAttr K C f) (e : M[k]? = some (.ins C fs)) (lk : fs.lookup f = some u) (q : Q u M) : FldS K f (.m k) M Q := ⟨k, C, fs, u, rfl, e, c, na, lk, q⟩
theorem fldPut_at {k : Nat} {fs : List (Str × U)} {y : U} {R : MM → Prop} (c : Cls K C) (na : NoAttr K C f) (e : M[k]? = some (.ins C fs)) (hz : fs.length < 1000) (q : R (M.set k (.ins C (putFU f y fs)))) : FldPutS K f (.m k) y M R := ⟨k, C, fs, rfl, e, c, na, hz, q⟩
theorem meth_at {k : Nat} {fs : List (Str × U)} {R : Prop} (e : M[k]? = some (.ins C fs)) (lk : fs.lookup m = none) (q : R) : MethS C m (.m k) M R := ⟨k, fs, rfl, e, lk, q⟩
theorem repN_at {xs : List T} {k : Int} {Q : UK} (k0 : -(2 ^ 63) ≤ k) (k1 : k < 2 ^ 63) (hz : xs.length * k.toNat ≤ sizeLine) (q : Q (.m M.length) (M ++ [.lst ((List.replicate k.toNat xs).flatten.map U.p)])) : RepNS M (.p (.lst xs)) (.p (.int k)) Q := ⟨xs, k, rfl, rfl, k0, k1, hz, q⟩
end
section
variable {P : Program} {w : World} {K : PySem.W.Frag} {mg : Str → Option Value} {base : Heap}
def gNo : List U → MM → UK → Prop := fun _ _ _ => False
theorem FnOk.no {k : Nat} {f : Addr} {fd : FuncData} {ps : List Str} : FnOk P w K mg base CX0 k f fd ps (spU gNo) :=
  ⟨fun vs H Q E ⟨_, _, _, _, _, _, _, h, _⟩ => h.elim, fun _ _ _ _ _ _ _ _ _ _ _ _ _ ⟨_, _, _, _, _, _, _, h, _⟩ => h.elim⟩
end
end L2

namespace L2
open PySem PySem.Spec PyProof.Rows
/-! ### the links, closed -/
structure ZE (a : TE) (b : UE) : Prop where
  h : LE a b
structure ZT (a : TT) (b : UT) : Prop where
  h : LT a b
structure ZA (n : Nat) (a : TA) (b : UA) : Prop where
  h : LA n a b
structure ZI (a : TI) (b : UI) : Prop where
  h : LI a b
structure ZG (a : TG) (b : UG) : Prop where
  h : LG a b
structure ZS (a : TS) (b : US) : Prop where
  h : LS a b
section
variable {te ta tb tc : TE} {ue ua ub uc : UE} {tt tt' : TT} {ut ut' : UT} {tl : TA} {ul : UA} {n : Nat}
theorem ce_var (i : Nat) : ZE (tVar i) (uVar i) := ⟨le_var i⟩
end
section
variable {te ta tb tc : TE} {ue ua ub uc : UE} {tt tt' : TT} {ut ut' : UT} {tl : TA} {ul : UA} {n : Nat}
theorem ce_c {v : V} {t : T} (h : Sc v t) : ZE (tC v) (uC t) := ⟨le_c h⟩
end
section
variable {te ta tb tc : TE} {ue ua ub uc : UE} {tt tt' : TT} {ut ut' : UT} {tl : TA} {ul : UA} {n : Nat}
theorem ca_nil  : ZA 0 tNil uNil := ⟨la_nil ⟩
end
section
variable {te ta tb tc : TE} {ue ua ub uc : UE} {tt tt' : TT} {ut ut' : UT} {tl : TA} {ul : UA} {n : Nat}
theorem ca_cons (ha : ZE ta ua) (hl : ZA n tl ul) : ZA (n + 1) (tCons ta tl) (uCons ua ul) := ⟨la_cons ha.h hl.h⟩
end
section
variable {te ta tb tc : TE} {ue ua ub uc : UE} {tt tt' : TT} {ut ut' : UT} {tl : TA} {ul : UA} {n : Nat}
variable {A : Addr → Prop} {H H' : Hp} {ι : List Addr} {M : MM} {v : V} {u : U} {t : T}
theorem ce_op {r : R2} {s : T → T → (T → Prop) → Prop} (h : OpL r s) (ha : ZE ta ua) (hb : ZE tb ub) : ZE (tOp r ta tb) (uOp s ua ub) := ⟨le_op h ha.h hb.h⟩
end
section
variable {te ta tb tc : TE} {ue ua ub uc : UE} {tt tt' : TT} {ut ut' : UT} {tl : TA} {ul : UA} {n : Nat}
variable {A : Addr → Prop} {H H' : Hp} {ι : List Addr} {M : MM} {v : V} {u : U} {t : T}
end
section
variable {te ta tb tc : TE} {ue ua ub uc : UE} {tt tt' : TT} {ut ut' : UT} {tl : TA} {ul : UA} {n : Nat}
variable {A : Addr → Prop} {H H' : Hp} {ι : List Addr} {M : MM} {v : V} {u : U} {t : T}
end
section
variable {te ta tb tc : TE} {ue ua ub uc : UE} {tt tt' : TT} {ut ut' : UT} {tl : TA} {ul : UA} {n : Nat}
variable {A : Addr → Prop} {H H' : Hp} {ι : List Addr} {M : MM} {v : V} {u : U} {t : T}
theorem ce_neg (ha : ZE ta ua) : ZE (tUn (rU fun i => .int (-i)) ta) (uNeg ua) := ⟨le_neg ha.h⟩
end
section
variable {te ta tb tc : TE} {ue ua ub uc : UE} {tt tt' : TT} {ut ut' : UT} {tl : TA} {ul : UA} {n : Nat}
variable {A : Addr → Prop} {H H' : Hp} {ι : List Addr} {M : MM} {v : V} {u : U} {t : T}
theorem ct_b (ha : ZE ta ua) : ZT (tB ta) (uB ua) := ⟨lt_b ha.h⟩
end
section
variable {te ta tb tc : TE} {ue ua ub uc : UE} {tt tt' : TT} {ut ut' : UT} {tl : TA} {ul : UA} {n : Nat}
variable {A : Addr → Prop} {H H' : Hp} {ι : List Addr} {M : MM} {v : V} {u : U} {t : T}
theorem ct_test (ha : ZE ta ua) : ZT (tTest ta) (uB ua) := ⟨lt_test ha.h⟩
end
section
variable {te ta tb tc : TE} {ue ua ub uc : UE} {tt tt' : TT} {ut ut' : UT} {tl : TA} {ul : UA} {n : Nat}
variable {A : Addr → Prop} {H H' : Hp} {ι : List Addr} {M : MM} {v : V} {u : U} {t : T}
end
section
variable {te ta tb tc : TE} {ue ua ub uc : UE} {tt tt' : TT} {ut ut' : UT} {tl : TA} {ul : UA} {n : Nat}
variable {A : Addr → Prop} {H H' : Hp} {ι : List Addr} {M : MM} {v : V} {u : U} {t : T}
end
section
variable {te ta tb tc : TE} {ue ua ub uc : UE} {tt tt' : TT} {ut ut' : UT} {tl : TA} {ul : UA} {n : Nat}
variable {A : Addr → Prop} {H H' : Hp} {ι : List Addr} {M : MM} {v : V} {u : U} {t : T}
theorem ct_or (ha : ZT tt ut) (hb : ZT tt' ut') : ZT (tOr tt tt') (uOr ut ut') := ⟨lt_or ha.h hb.h⟩
end
section
variable {te ta tb tc : TE} {ue ua ub uc : UE} {tt tt' : TT} {ut ut' : UT} {tl : TA} {ul : UA} {n : Nat}
variable {A : Addr → Prop} {H H' : Hp} {ι : List Addr} {M : MM} {v : V} {u : U} {t : T}
theorem ct_not (ha : ZT tt ut) : ZT (tNot tt) (uNot ut) := ⟨lt_not ha.h⟩
end
section
variable {te ta tb tc : TE} {ue ua ub uc : UE} {tt tt' : TT} {ut ut' : UT} {tl : TA} {ul : UA} {n : Nat}
variable {A : Addr → Prop} {H H' : Hp} {ι : List Addr} {M : MM} {v : V} {u : U} {t : T}
theorem ce_andV (ha : ZE ta ua) (hb : ZE tb ub) : ZE (tAndV ta tb) (uAndV ua ub) := ⟨le_andV ha.h hb.h⟩
end
section
variable {te ta tb tc : TE} {ue ua ub uc : UE} {tt tt' : TT} {ut ut' : UT} {tl : TA} {ul : UA} {n : Nat}
variable {A : Addr → Prop} {H H' : Hp} {ι : List Addr} {M : MM} {v : V} {u : U} {t : T}
end
section
variable {te ta tb tc : TE} {ue ua ub uc : UE} {tt tt' : TT} {ut ut' : UT} {tl : TA} {ul : UA} {n : Nat}
variable {A : Addr → Prop} {H H' : Hp} {ι : List Addr} {M : MM} {v : V} {u : U} {t : T}
end
section
variable {te ta tb tc : TE} {ue ua ub uc : UE} {tt tt' : TT} {ut ut' : UT} {tl : TA} {ul : UA} {n : Nat}
variable {A : Addr → Prop} {H H' : Hp} {ι : List Addr} {M : MM} {v : V} {u : U} {t : T}
theorem ce_if (hc : ZT tt ut) (ha : ZE ta ua) (hb : ZE tb ub) : ZE (tIf tt ta tb) (uIf ut ua ub) := ⟨le_if hc.h ha.h hb.h⟩
end
section
variable {te ta tb tc : TE} {ue ua ub uc : UE} {tt tt' : TT} {ut ut' : UT} {tl : TA} {ul : UA} {n : Nat}
variable {A : Addr → Prop} {H H' : Hp} {ι : List Addr} {M : MM} {v : V} {u : U} {t : T}
end
section
variable {te ta tb tc : TE} {ue ua ub uc : UE} {tt tt' : TT} {ut ut' : UT} {tl : TA} {ul : UA} {n : Nat}
variable {A : Addr → Prop} {H H' : Hp} {ι : List Addr} {M : MM} {v : V} {u : U} {t : T}
theorem ce_tup (ha : ZA n tl ul) (hn : n ≤ 1000 := by decide) : ZE (tTup tl) (uTup ul) := ⟨le_tup ha.h hn⟩
end
section
variable {te ta tb tc : TE} {ue ua ub uc : UE} {tt tt' : TT} {ut ut' : UT} {tl : TA} {ul : UA} {n : Nat}
variable {A : Addr → Prop} {H H' : Hp} {ι : List Addr} {M : MM} {v : V} {u : U} {t : T}
theorem ce_lst (ha : ZA n tl ul) (hn : n ≤ 1000 := by decide) : ZE (tLst tl) (uLst ul) := ⟨le_lst ha.h hn⟩
end
section
variable {te ta tb tc : TE} {ue ua ub uc : UE} {tt tt' : TT} {ut ut' : UT} {tl : TA} {ul : UA} {n : Nat}
variable {A : Addr → Prop} {H H' : Hp} {ι : List Addr} {M : MM} {v : V} {u : U} {t : T}
theorem ce_new (ha : ZA n tl ul) (hn : n ≤ 1000 := by decide) : ZE (tLst tl) (uNew ul) := ⟨le_new ha.h hn⟩
end
section
variable {te ta tb tc : TE} {ue ua ub uc : UE} {tt tt' : TT} {ut ut' : UT} {tl : TA} {ul : UA} {n : Nat}
variable {A : Addr → Prop} {H H' : Hp} {ι : List Addr} {M : MM} {v : V} {u : U} {t : T}
end
section
variable {te ta tb tc : TE} {ue ua ub uc : UE} {tt tt' : TT} {ut ut' : UT} {tl : TA} {ul : UA} {n : Nat}
variable {A : Addr → Prop} {H H' : Hp} {ι : List Addr} {M : MM} {v : V} {u : U} {t : T}
theorem ce_ixL {K : PySem.W.Frag} (ha : ZE ta ua) (hb : ZE tb ub) : ZE (tOp (rIxL K) ta tb) (uIx itemsL ua ub) := ⟨le_ixL ha.h hb.h⟩
end
section
variable {te ta tb tc : TE} {ue ua ub uc : UE} {tt tt' : TT} {ut ut' : UT} {tl : TA} {ul : UA} {n : Nat}
variable {A : Addr → Prop} {H H' : Hp} {ι : List Addr} {M : MM} {v : V} {u : U} {t : T}
theorem ce_ixT {K : PySem.W.Frag} (ha : ZE ta ua) (hb : ZE tb ub) : ZE (tOp (rIxT K) ta tb) (uIx itemsT ua ub) := ⟨le_ixT ha.h hb.h⟩
end
section
variable {te ta tb tc : TE} {ue ua ub uc : UE} {tt tt' : TT} {ut ut' : UT} {tl : TA} {ul : UA} {n : Nat}
variable {A : Addr → Prop} {H H' : Hp} {ι : List Addr} {M : MM} {v : V} {u : U} {t : T}
theorem ce_cb {r : List V → Hp → VK → Prop} {s : List T → (T → Prop) → Prop} (h : CbL r s) (ha : ZA n tl ul) : ZE (tCB r tl) (uCb s ul) := ⟨le_cb h ha.h⟩
end
section
variable {te ta tb tc : TE} {ue ua ub uc : UE} {tt tt' : TT} {ut ut' : UT} {tl : TA} {ul : UA} {n : Nat}
variable {A : Addr → Prop} {H H' : Hp} {ι : List Addr} {M : MM} {v : V} {u : U} {t : T}
theorem ce_len (ha : ZA n tl ul) : ZE (tCB rLenL tl) (uLen itemsL ul) := ⟨le_len ha.h⟩
end
section
variable {te ta tb tc : TE} {ue ua ub uc : UE} {tt tt' : TT} {ut ut' : UT} {tl : TA} {ul : UA} {n : Nat}
variable {A : Addr → Prop} {H H' : Hp} {ι : List Addr} {M : MM} {v : V} {u : U} {t : T}
end
section
variable {te ta tb tc : TE} {ue ua ub uc : UE} {tt tt' : TT} {ut ut' : UT} {tl : TA} {ul : UA} {n : Nat}
variable {A : Addr → Prop} {H H' : Hp} {ι : List Addr} {M : MM} {v : V} {u : U} {t : T}
end
section
variable {te ta tb tc : TE} {ue ua ub uc : UE} {tt tt' : TT} {ut ut' : UT} {tl : TA} {ul : UA} {n : Nat}
variable {A : Addr → Prop} {H H' : Hp} {ι : List Addr} {M : MM} {v : V} {u : U} {t : T}
end
section
variable {te ta tb tc : TE} {ue ua ub uc : UE} {tt tt' : TT} {ut ut' : UT} {tl : TA} {ul : UA} {n : Nat}
variable {A : Addr → Prop} {H H' : Hp} {ι : List Addr} {M : MM} {v : V} {u : U} {t : T}
end
section
variable {te ta tb tc : TE} {ue ua ub uc : UE} {tt tt' : TT} {ut ut' : UT} {tl : TA} {ul : UA} {n : Nat} {A A' A2 : Addr → Prop} {H H' H1 H2 : Hp} {ι ι' ι1 ι2 : List Addr} {M M' : MM} {v : V} {u : U} {t : T} {σ : St} {ρ : UEnv} {K : PySem.W.Frag}
theorem ci_list (ha : ZE ta ua) : ZI (iList K ta) (uIter ua) := ⟨li_list ha.h⟩
end
section
variable {te ta tb tc : TE} {ue ua ub uc : UE} {tt tt' : TT} {ut ut' : UT} {tl : TA} {ul : UA} {n : Nat} {A A' A2 : Addr → Prop} {H H' H1 H2 : Hp} {ι ι' ι1 ι2 : List Addr} {M M' : MM} {v : V} {u : U} {t : T} {σ : St} {ρ : UEnv} {K : PySem.W.Frag}
end
section
variable {te ta tb tc : TE} {ue ua ub uc : UE} {tt tt' : TT} {ut ut' : UT} {tl : TA} {ul : UA} {n : Nat} {A A' A2 : Addr → Prop} {H H' H1 H2 : Hp} {ι ι' ι1 ι2 : List Addr} {M M' : MM} {v : V} {u : U} {t : T} {σ : St} {ρ : UEnv} {K : PySem.W.Frag}
end
section
variable {te ta tb tc : TE} {ue ua ub uc : UE} {tt tt' : TT} {ut ut' : UT} {tl : TA} {ul : UA} {n : Nat} {A A' A2 : Addr → Prop} {H H' H1 H2 : Hp} {ι ι' ι1 ι2 : List Addr} {M M' : MM} {v : V} {u : U} {t : T} {σ : St} {ρ : UEnv} {K : PySem.W.Frag}
end
section
variable {te ta tb tc : TE} {ue ua ub uc : UE} {tt tt' : TT} {ut ut' : UT} {tl : TA} {ul : UA} {n : Nat} {A A' A2 : Addr → Prop} {H H' H1 H2 : Hp} {ι ι' ι1 ι2 : List Addr} {M M' : MM} {v : V} {u : U} {t : T} {σ : St} {ρ : UEnv} {K : PySem.W.Frag}
theorem ci_rng1 (ha : ZA n tl ul) : ZI (iRng1 tl) (uRng1 ul) := ⟨li_rng1 ha.h⟩
end
section
variable {te ta tb tc : TE} {ue ua ub uc : UE} {tt tt' : TT} {ut ut' : UT} {tl : TA} {ul : UA} {n : Nat} {A A' A2 : Addr → Prop} {H H' H1 H2 : Hp} {ι ι' ι1 ι2 : List Addr} {M M' : MM} {v : V} {u : U} {t : T} {σ : St} {ρ : UEnv} {K : PySem.W.Frag}
end
section
variable {te ta tb tc : TE} {ue ua ub uc : UE} {tt tt' : TT} {ut ut' : UT} {tl : TA} {ul : UA} {n : Nat} {A A' A2 : Addr → Prop} {H H' H1 H2 : Hp} {ι ι' ι1 ι2 : List Addr} {M M' : MM} {v : V} {u : U} {t : T} {σ : St} {ρ : UEnv} {K : PySem.W.Frag}
theorem cg_name (i : Nat) : ZG (gName i) (uName i) := ⟨lg_name i⟩
end
section
variable {te ta tb tc : TE} {ue ua ub uc : UE} {tt tt' : TT} {ut ut' : UT} {tl : TA} {ul : UA} {n : Nat} {A A' A2 : Addr → Prop} {H H' H1 H2 : Hp} {ι ι' ι1 ι2 : List Addr} {M M' : MM} {v : V} {u : U} {t : T} {σ : St} {ρ : UEnv} {K : PySem.W.Frag}
theorem cg_name2 (i j : Nat) : ZG (gTup K 2 (gCons (gName i) (gCons (gName j) gNil))) (uName2 i j) := ⟨lg_name2 i j⟩
end
section
variable {te ta tb tc : TE} {ue ua ub uc : UE} {tt tt' : TT} {ut ut' : UT} {tl : TA} {ul : UA} {n : Nat} {A A' A2 : Addr → Prop} {H H' H1 H2 : Hp} {ι ι' ι1 ι2 : List Addr} {M M' : MM} {v : V} {u : U} {t : T} {σ : St} {ρ : UEnv} {K : PySem.W.Frag}
end
section
variable {te ta tb tc : TE} {ue ua ub uc : UE} {tt tt' : TT} {ut ut' : UT} {tl : TA} {ul : UA} {n : Nat} {A A' A2 : Addr → Prop} {H H' H1 H2 : Hp} {ι ι' ι1 ι2 : List Addr} {M M' : MM} {v : V} {u : U} {t : T} {σ : St} {ρ : UEnv} {K : PySem.W.Frag}
theorem cg_sub (ha : ZE ta ua) (hb : ZE tb ub) : ZG (gSub ta tb rSetL) (uSub ua ub) := ⟨lg_sub ha.h hb.h⟩
end
section
variable {te ta tb tc : TE} {ue ua ub uc : UE} {tt tt' : TT} {ut ut' : UT} {tl : TA} {ul : UA} {n : Nat} {A A' A2 : Addr → Prop} {H H' H1 H2 : Hp} {ι ι' ι1 ι2 : List Addr} {M M' : MM} {v : V} {u : U} {t : T} {σ : St} {ρ : UEnv} {K : PySem.W.Frag}
end
section
variable {te ta tb tc : TE} {ue ua ub uc : UE} {tt tt' : TT} {ut ut' : UT} {tl : TA} {ul : UA} {n : Nat} {A A' A2 : Addr → Prop} {H H' H1 H2 : Hp} {ι ι' ι1 ι2 : List Addr} {M M' : MM} {v : V} {u : U} {t : T} {σ : St} {ρ : UEnv} {K : PySem.W.Frag}
end
section
variable {te ta tb tc : TE} {ue ua ub uc : UE} {tt tt' : TT} {ut ut' : UT} {tl : TA} {ul : UA} {n : Nat} {A A' A2 : Addr → Prop} {H H' H1 H2 : Hp} {ι ι' ι1 ι2 : List Addr} {M M' : MM} {v : V} {u : U} {t : T} {σ : St} {ρ : UEnv} {K : PySem.W.Frag}
end
section
variable {te ta tb tc : TE} {ue ua ub uc : UE} {tt tt' : TT} {ut ut' : UT} {tl : TA} {ul : UA} {n : Nat} {A A' A2 : Addr → Prop} {H H' H1 H2 : Hp} {ι ι' ι1 ι2 : List Addr} {M M' : MM} {v : V} {u : U} {t : T} {σ : St} {ρ : UEnv} {K : PySem.W.Frag}
end
section
variable {te ta tb tc : TE} {ue ua ub uc : UE} {tt tt' : TT} {ut ut' : UT} {tl : TA} {ul : UA} {n : Nat} {A A' A2 : Addr → Prop} {H H' H1 H2 : Hp} {ι ι' ι1 ι2 : List Addr} {M M' : MM} {v : V} {u : U} {t : T} {σ : St} {ρ : UEnv} {K : PySem.W.Frag}
end
section
variable {te ta tb tc : TE} {ue ua ub uc : UE} {tt tt' : TT} {ut ut' : UT} {tl : TA} {ul : UA} {n : Nat} {A A' A2 : Addr → Prop} {H H' H1 H2 : Hp} {ι ι' ι1 ι2 : List Addr} {M M' : MM} {v : V} {u : U} {t : T} {σ : St} {ρ : UEnv} {K : PySem.W.Frag}
variable {ts ts' : TS} {us us' : US}
theorem cs_next  : ZS tNext uNext := ⟨ls_next ⟩
end
section
variable {te ta tb tc : TE} {ue ua ub uc : UE} {tt tt' : TT} {ut ut' : UT} {tl : TA} {ul : UA} {n : Nat} {A A' A2 : Addr → Prop} {H H' H1 H2 : Hp} {ι ι' ι1 ι2 : List Addr} {M M' : MM} {v : V} {u : U} {t : T} {σ : St} {ρ : UEnv} {K : PySem.W.Frag}
variable {ts ts' : TS} {us us' : US}
end
section
variable {te ta tb tc : TE} {ue ua ub uc : UE} {tt tt' : TT} {ut ut' : UT} {tl : TA} {ul : UA} {n : Nat} {A A' A2 : Addr → Prop} {H H' H1 H2 : Hp} {ι ι' ι1 ι2 : List Addr} {M M' : MM} {v : V} {u : U} {t : T} {σ : St} {ρ : UEnv} {K : PySem.W.Frag}
variable {ts ts' : TS} {us us' : US}
end
section
variable {te ta tb tc : TE} {ue ua ub uc : UE} {tt tt' : TT} {ut ut' : UT} {tl : TA} {ul : UA} {n : Nat} {A A' A2 : Addr → Prop} {H H' H1 H2 : Hp} {ι ι' ι1 ι2 : List Addr} {M M' : MM} {v : V} {u : U} {t : T} {σ : St} {ρ : UEnv} {K : PySem.W.Frag}
variable {ts ts' : TS} {us us' : US}
theorem cs_seq (ha : ZS ts us) (hb : ZS ts' us') : ZS (tSeq ts ts') (uSeq us us') := ⟨ls_seq ha.h hb.h⟩
end
section
variable {te ta tb tc : TE} {ue ua ub uc : UE} {tt tt' : TT} {ut ut' : UT} {tl : TA} {ul : UA} {n : Nat} {A A' A2 : Addr → Prop} {H H' H1 H2 : Hp} {ι ι' ι1 ι2 : List Addr} {M M' : MM} {v : V} {u : U} {t : T} {σ : St} {ρ : UEnv} {K : PySem.W.Frag}
variable {ts ts' : TS} {us us' : US}
theorem cs_drop (ha : ZE ta ua) : ZS (tDrop ta) (uDrop ua) := ⟨ls_drop ha.h⟩
end
section
variable {te ta tb tc : TE} {ue ua ub uc : UE} {tt tt' : TT} {ut ut' : UT} {tl : TA} {ul : UA} {n : Nat} {A A' A2 : Addr → Prop} {H H' H1 H2 : Hp} {ι ι' ι1 ι2 : List Addr} {M M' : MM} {v : V} {u : U} {t : T} {σ : St} {ρ : UEnv} {K : PySem.W.Frag}
variable {ts ts' : TS} {us us' : US}
theorem cs_ret (ha : ZE ta ua) : ZS (tRet ta) (uRet ua) := ⟨ls_ret ha.h⟩
end
section
variable {te ta tb tc : TE} {ue ua ub uc : UE} {tt tt' : TT} {ut ut' : UT} {tl : TA} {ul : UA} {n : Nat} {A A' A2 : Addr → Prop} {H H' H1 H2 : Hp} {ι ι' ι1 ι2 : List Addr} {M M' : MM} {v : V} {u : U} {t : T} {σ : St} {ρ : UEnv} {K : PySem.W.Frag}
variable {ts ts' : TS} {us us' : US}
end
section
variable {te ta tb tc : TE} {ue ua ub uc : UE} {tt tt' : TT} {ut ut' : UT} {tl : TA} {ul : UA} {n : Nat} {A A' A2 : Addr → Prop} {H H' H1 H2 : Hp} {ι ι' ι1 ι2 : List Addr} {M M' : MM} {v : V} {u : U} {t : T} {σ : St} {ρ : UEnv} {K : PySem.W.Frag}
variable {ts ts' : TS} {us us' : US}
theorem cs_if (hc : ZT tt ut) (ha : ZS ts us) (hb : ZS ts' us') : ZS (tIfS tt ts ts') (uIfS ut us us') := ⟨ls_if hc.h ha.h hb.h⟩
end
section
variable {te ta tb tc : TE} {ue ua ub uc : UE} {tt tt' : TT} {ut ut' : UT} {tl : TA} {ul : UA} {n : Nat} {A A' A2 : Addr → Prop} {H H' H1 H2 : Hp} {ι ι' ι1 ι2 : List Addr} {M M' : MM} {v : V} {u : U} {t : T} {σ : St} {ρ : UEnv} {K : PySem.W.Frag}
variable {ts ts' : TS} {us us' : US}
theorem cs_asg {g : TG} {ug : UG} (ha : ZE ta ua) (hg : ZG g ug) : ZS (tAsg ta g) (uAsg ua ug) := ⟨ls_asg ha.h hg.h⟩
end
section
variable {te ta tb tc : TE} {ue ua ub uc : UE} {tt tt' : TT} {ut ut' : UT} {tl : TA} {ul : UA} {n : Nat} {A A' A2 : Addr → Prop} {H H' H1 H2 : Hp} {ι ι' ι1 ι2 : List Addr} {M M' : MM} {v : V} {u : U} {t : T} {σ : St} {ρ : UEnv} {K : PySem.W.Frag}
variable {ts ts' : TS} {us us' : US}
end
section
variable {te ta tb tc : TE} {ue ua ub uc : UE} {tt tt' : TT} {ut ut' : UT} {tl : TA} {ul : UA} {n : Nat} {A A' A2 : Addr → Prop} {H H' H1 H2 : Hp} {ι ι' ι1 ι2 : List Addr} {M M' : MM} {v : V} {u : U} {t : T} {σ : St} {ρ : UEnv} {K : PySem.W.Frag}
variable {ts ts' : TS} {us us' : US}
theorem cs_for {wi : TI} {ui : UI} {g : TG} {ug : UG} (hi : ZI wi ui) (hg : ZG g ug) (hb : ZS ts us) : ZS (tFor wi g ts) (uFor ui ug us) := ⟨ls_for hi.h hg.h hb.h⟩
end
section
variable {te ta tb tc : TE} {ue ua ub uc : UE} {tt tt' : TT} {ut ut' : UT} {tl : TA} {ul : UA} {n : Nat} {A A' A2 : Addr → Prop} {H H' H1 H2 : Hp} {ι ι' ι1 ι2 : List Addr} {M M' : MM} {v : V} {u : U} {t : T} {σ : St} {ρ : UEnv} {K : PySem.W.Frag}
variable {ts ts' : TS} {us us' : US}
theorem cs_while (hc : ZT tt ut) (hb : ZS ts us) : ZS (tWhile tt ts) (uWhile ut us) := ⟨ls_while hc.h hb.h⟩
end
section
variable {te ta tb tc : TE} {ue ua ub uc : UE} {tt tt' : TT} {ut ut' : UT} {tl : TA} {ul : UA} {n : Nat} {A A' A2 : Addr → Prop} {H H' H1 H2 : Hp} {ι ι' ι1 ι2 : List Addr} {M M' : MM} {v : V} {u : U} {t : T} {σ : St} {ρ : UEnv} {K : PySem.W.Frag}
variable {ts ts' : TS} {us us' : US}
theorem ce_me {r : V → List V → Hp → VK → Prop} {s : List U → List U → (U → List U → Prop) → Prop} (h : MeL r s) (ha : ZE ta ua) (hl : ZA n tl ul) : ZE (tLM r ta tl) (uMe s ua ul) := ⟨le_me h ha.h hl.h⟩
end
section
variable {te ta tb tc : TE} {ue ua ub uc : UE} {tt tt' : TT} {ut ut' : UT} {tl : TA} {ul : UA} {n : Nat} {A A' A2 : Addr → Prop} {H H' H1 H2 : Hp} {ι ι' ι1 ι2 : List Addr} {M M' : MM} {v : V} {u : U} {t : T} {σ : St} {ρ : UEnv} {K : PySem.W.Frag}
variable {ts ts' : TS} {us us' : US}
theorem ce_callU {G : List U → MM → UK → Prop} {E : XK} (ha : ZA n tl ul) : ZE (tCall (spU G) [] E tl) (uCall G ul) := ⟨le_callU ha.h⟩
end
section
variable {te ta tb tc : TE} {ue ua ub uc : UE} {tt tt' : TT} {ut ut' : UT} {tl : TA} {ul : UA} {n : Nat} {A A' A2 : Addr → Prop} {H H' H1 H2 : Hp} {ι ι' ι1 ι2 : List Addr} {M M' : MM} {v : V} {u : U} {t : T} {σ : St} {ρ : UEnv} {K : PySem.W.Frag}
variable {ts ts' : TS} {us us' : US}
theorem ce_callP {G : List T → (T → Prop) → Prop} {E : XK} (ha : ZA n tl ul) : ZE (tCall (spP G) [] E tl) (uCallP G ul) := ⟨le_callP ha.h⟩
end
section
variable {te ta tb tc : TE} {ue ua ub uc : UE} {tt tt' : TT} {ut ut' : UT} {tl : TA} {ul : UA} {n : Nat} {A A' A2 : Addr → Prop} {H H' H1 H2 : Hp} {ι ι' ι1 ι2 : List Addr} {M M' : MM} {v : V} {u : U} {t : T} {σ : St} {ρ : UEnv} {K : PySem.W.Frag}
variable {ts ts' : TS} {us us' : US}
end
section
variable {te ta tb tc : TE} {ue ua ub uc : UE} {tl : TA} {ul : UA} {n : Nat} {A : Addr → Prop} {H H' : Hp} {ι ι' : List Addr} {M M' : MM} {v : V} {u : U} {t : T} {σ : St} {ρ : UEnv} {K : PySem.W.Frag}
end
section
variable {te ta tb tc : TE} {ue ua ub uc : UE} {tl : TA} {ul : UA} {n : Nat} {A : Addr → Prop} {H H' : Hp} {ι ι' : List Addr} {M M' : MM} {v : V} {u : U} {t : T} {σ : St} {ρ : UEnv} {K : PySem.W.Frag}
end
section
variable {te ta tb tc : TE} {ue ua ub uc : UE} {tl : TA} {ul : UA} {n : Nat} {A : Addr → Prop} {H H' : Hp} {ι ι' : List Addr} {M M' : MM} {v : V} {u : U} {t : T} {σ : St} {ρ : UEnv} {K : PySem.W.Frag}
end
section
variable {te ta tb tc : TE} {ue ua ub uc : UE} {tl : TA} {ul : UA} {n : Nat} {A : Addr → Prop} {H H' : Hp} {ι ι' : List Addr} {M M' : MM} {v : V} {u : U} {t : T} {σ : St} {ρ : UEnv} {K : PySem.W.Frag}
end
section
variable {te ta tb tc : TE} {ue ua ub uc : UE} {tl : TA} {ul : UA} {n : Nat} {A : Addr → Prop} {H H' : Hp} {ι ι' : List Addr} {M M' : MM} {v : V} {u : U} {t : T} {σ : St} {ρ : UEnv} {K : PySem.W.Frag}
end
section
variable {te ta tb tc : TE} {ue ua ub uc : UE} {tl : TA} {ul : UA} {n : Nat} {A : Addr → Prop} {H H' : Hp} {ι ι' : List Addr} {M M' : MM} {v : V} {u : U} {t : T} {σ : St} {ρ : UEnv} {K : PySem.W.Frag}
theorem ce_isi (c : TyC) (ha : ZE ta ua) : ZE (tCB (rIsi K) (tCons ta (tCons (tC (.ty c.name)) tNil))) (uIsi c ua) := ⟨le_isi c ha.h⟩
end
section
variable {te ta tb tc : TE} {ue ua ub uc : UE} {tl : TA} {ul : UA} {n : Nat} {A : Addr → Prop} {H H' : Hp} {ι ι' : List Addr} {M M' : MM} {v : V} {u : U} {t : T} {σ : St} {ρ : UEnv} {K : PySem.W.Frag}
end
section
variable {te ta tb tc : TE} {ue ua ub uc : UE} {tl : TA} {ul : UA} {n : Nat} {A : Addr → Prop} {H H' : Hp} {ι ι' : List Addr} {M M' : MM} {v : V} {u : U} {t : T} {σ : St} {ρ : UEnv} {K : PySem.W.Frag}
end
section
variable {te ta tb tc : TE} {ue ua ub uc : UE} {tl : TA} {ul : UA} {n : Nat} {A : Addr → Prop} {H H' : Hp} {ι ι' : List Addr} {M M' : MM} {v : V} {u : U} {t : T} {σ : St} {ρ : UEnv} {K : PySem.W.Frag}
end
section
variable {te ta tb tc : TE} {ue ua ub uc : UE} {tl : TA} {ul : UA} {n : Nat} {A : Addr → Prop} {H H' : Hp} {ι ι' : List Addr} {M M' : MM} {v : V} {u : U} {t : T} {σ : St} {ρ : UEnv} {K : PySem.W.Frag}
end
section
variable {te ta tb tc : TE} {ue ua ub uc : UE} {tl : TA} {ul : UA} {n : Nat} {A : Addr → Prop} {H H' : Hp} {ι ι' : List Addr} {M M' : MM} {v : V} {u : U} {t : T} {σ : St} {ρ : UEnv} {K : PySem.W.Frag}
end
section
variable {te ta tb tc : TE} {ue ua ub uc : UE} {tl : TA} {ul : UA} {n : Nat} {A : Addr → Prop} {H H' : Hp} {ι ι' : List Addr} {M M' : MM} {v : V} {u : U} {t : T} {σ : St} {ρ : UEnv} {K : PySem.W.Frag}
end
section
variable {te ta tb tc : TE} {ue ua ub uc : UE} {tl : TA} {ul : UA} {n : Nat} {A : Addr → Prop} {H H' : Hp} {ι ι' : List Addr} {M M' : MM} {v : V} {u : U} {t : T} {σ : St} {ρ : UEnv} {K : PySem.W.Frag}
end
section
variable {te ta tb tc tv : TE} {ue ua ub uc uv : UE} {tl : TA} {ul : UA} {n : Nat} {A : Addr → Prop} {H H' : Hp} {ι ι' : List Addr} {M M' : MM} {v : V} {u : U} {t : T} {σ : St} {ρ : UEnv} {K : PySem.W.Frag} {f m : Str} {C : Addr}
theorem ce_fld (ha : ZE ta ua) : ZE (tFld K ta f) (uFld K ua f) := ⟨le_fld ha.h⟩
end
section
variable {te ta tb tc tv : TE} {ue ua ub uc uv : UE} {tl : TA} {ul : UA} {n : Nat} {A : Addr → Prop} {H H' : Hp} {ι ι' : List Addr} {M M' : MM} {v : V} {u : U} {t : T} {σ : St} {ρ : UEnv} {K : PySem.W.Frag} {f m : Str} {C : Addr}
theorem cs_fld (ha : ZE ta ua) (hv : ZE tv uv) : ZS (sFld K ta tv f) (uFldPut K ua uv f) := ⟨ls_fld ha.h hv.h⟩
end
section
variable {te ta tb tc tv : TE} {ue ua ub uc uv : UE} {tl : TA} {ul : UA} {n : Nat} {A : Addr → Prop} {H H' : Hp} {ι ι' : List Addr} {M M' : MM} {v : V} {u : U} {t : T} {σ : St} {ρ : UEnv} {K : PySem.W.Frag} {f m : Str} {C : Addr}
theorem ce_meth {G : List U → MM → UK → Prop} {E : XK} (ha : ZE ta ua) (hl : ZA n tl ul) : ZE (tMeth C m (spU G) [] E ta tl) (uMeth C m G ua ul) := ⟨le_meth ha.h hl.h⟩
end
section
variable {te ta tb tc tv : TE} {ue ua ub uc uv : UE} {tl : TA} {ul : UA} {n : Nat} {A : Addr → Prop} {H H' : Hp} {ι ι' : List Addr} {M M' : MM} {v : V} {u : U} {t : T} {σ : St} {ρ : UEnv} {K : PySem.W.Frag} {f m : Str} {C : Addr}
theorem ce_make {G : List U → MM → UK → Prop} {E : XK} (hl : ZA n tl ul) : ZE (tMake C (spU G) [] E tl) (uMake C G ul) := ⟨le_make hl.h⟩
end
section
variable {te ta tb tc tv : TE} {ue ua ub uc uv : UE} {tl : TA} {ul : UA} {n : Nat} {A : Addr → Prop} {H H' : Hp} {ι ι' : List Addr} {M M' : MM} {v : V} {u : U} {t : T} {σ : St} {ρ : UEnv} {K : PySem.W.Frag} {f m : Str} {C : Addr}
theorem cs_never  : ZS tRaiseNo uNever := ⟨ls_never ⟩
end
section
variable {te ta tb tc tv : TE} {ue ua ub uc uv : UE} {tl : TA} {ul : UA} {n : Nat} {A : Addr → Prop} {H H' : Hp} {ι ι' : List Addr} {M M' : MM} {v : V} {u : U} {t : T} {σ : St} {ρ : UEnv} {K : PySem.W.Frag} {f m : Str} {C : Addr}
theorem ce_repNew (ha : ZE ta ua) (hb : ZE tb ub) : ZE (tOp rRep ta tb) (uRepNew ua ub) := ⟨le_repNew ha.h hb.h⟩
end
section
variable {te ta tb tc tv : TE} {ue ua ub uc uv : UE} {tl : TA} {ul : UA} {n : Nat} {A : Addr → Prop} {H H' : Hp} {ι ι' : List Addr} {M M' : MM} {v : V} {u : U} {t : T} {σ : St} {ρ : UEnv} {K : PySem.W.Frag} {f m : Str} {C : Addr}
end
section
variable {te ta tb tc tv : TE} {ue ua ub uc uv : UE} {tl : TA} {ul : UA} {n : Nat} {A : Addr → Prop} {H H' : Hp} {ι ι' : List Addr} {M M' : MM} {v : V} {u : U} {t : T} {σ : St} {ρ : UEnv} {K : PySem.W.Frag} {f m : Str} {C : Addr}
theorem cs_par {i j : Nat} (hl : ZA n tl ul) : ZS (tPar i j tl) (uPar i j ul) := ⟨ls_par hl.h⟩
end
section
variable {te ta tb tc tv : TE} {ue ua ub uc uv : UE} {tl : TA} {ul : UA} {n : Nat} {A : Addr → Prop} {H H' : Hp} {ι ι' : List Addr} {M M' : MM} {v : V} {u : U} {t : T} {σ : St} {ρ : UEnv} {K : PySem.W.Frag} {f m : Str} {C : Addr}
end
end L2

namespace L2
open PySem PySem.Spec PyProof.Rows
section
variable {P : Program} {w : World} {K : PySem.W.Frag} {mg : Str → Option Value} {base : Heap}
theorem Fun.okQ {x qual : Str} {st : Stmt} {f : Addr} {fd : FuncData} {N ps : List Str} {k : Nat} {sp : Sp} (F : Fun K x qual st f fd) (S : FnScope N ps (defScope st)) (len : ∀ vs H Q E, sp vs H Q E → vs.length = ps.length)
    (hbody : ∀ (cdv : Value) (A : Around) (outer : List Env) (s : Shared) (H : Hp) (vs : List V) (Q : VK) (E : XK), Room k (A.deeper (envOfC qual (defScope st) s.heap.objs.size f cdv)) → sp vs H Q E →
      ∃ t, QSs (cxOf CX0 P w K mg base N qual (defScope st) f cdv A outer s H E).nox (defBody st) t ∧ t { nx := fun _ H' => Q .non H', rt := Q } (start N vs) H) : FnOk P w K mg base CX0 (k + 1) f fd ps sp :=
  F.ok S len fun cdv A outer s H vs Q E hr hsp => by
    obtain ⟨t, h, q⟩ := hbody cdv A outer s H vs Q E hr hsp
    exact ⟨t, h.h, q⟩
/-- a def over trees: its things stay -/
theorem Fun.zU {x qual : Str} {st : Stmt} {f : Addr} {fd : FuncData} {N ps : List Str} {k : Nat} {G : List U → MM → UK → Prop} (F : Fun K x qual st f fd) (S : FnScope N ps (defScope st)) (len : ∀ us M Qu, G us M Qu → us.length = ps.length)
    (hbody : ∀ (cdv : Value) (A : Around) (outer : List Env) (s : Shared) (H : Hp) (E : XK), Room k (A.deeper (envOfC qual (defScope st) s.heap.objs.size f cdv)) →
      ∃ t, QSs (cxOf CX0 P w K mg base N qual (defScope st) f cdv A outer s H E).nox (defBody st) t ∧ ∃ u, ZS t u ∧ ∀ us M Qu, G us M Qu → u { nx := fun _ M' => Qu (.p .non) M', rt := Qu } (startU N us) M) : FnOk P w K mg base CX0 (k + 1) f fd ps (spU G) :=
  F.okU S len fun cdv A outer s H E hr => by
    obtain ⟨t, h, u, hu, q⟩ := hbody cdv A outer s H E hr
    exact ⟨t, h.h, u, hu.h, q⟩
/-- a def over trees: its things go, what it tells is a tree -/
theorem Fun.zV {x qual : Str} {st : Stmt} {f : Addr} {fd : FuncData} {N ps : List Str} {k : Nat} {G : List U → MM → UK → Prop} (F : Fun K x qual st f fd) (S : FnScope N ps (defScope st)) (len : ∀ us M Qu, G us M Qu → us.length = ps.length)
    (hbody : ∀ (cdv : Value) (A : Around) (outer : List Env) (s : Shared) (H : Hp) (E : XK), Room k (A.deeper (envOfC qual (defScope st) s.heap.objs.size f cdv)) →
      ∃ t, QSs (cxOf CX0 P w K mg base N qual (defScope st) f cdv A outer s H E).nox (defBody st) t ∧ ∃ u, ZS t u ∧ ∀ us M M1 Qu, M1 = M → G us M Qu → u { nx := fun _ M' => TrimOk M M' ∧ Qu (.p .non) (M'.take M.length), rt := fun z M' => TrimOk M M' ∧ ∃ t, frzB M.length 4 M' z = some t ∧ Qu (.p t) (M'.take M.length) } (startU N us) M1) : FnOk P w K mg base CX0 (k + 1) f fd ps (spU G) :=
  F.okV S len fun cdv A outer s H E hr => by
    obtain ⟨t, h, u, hu, q⟩ := hbody cdv A outer s H E hr
    exact ⟨t, h.h, u, hu.h, fun us M Qu g => q us M M Qu rfl g⟩
theorem Fun.zP {x qual : Str} {st : Stmt} {f : Addr} {fd : FuncData} {N ps : List Str} {k : Nat} {G : List T → (T → Prop) → Prop} (F : Fun K x qual st f fd) (S : FnScope N ps (defScope st)) (len : ∀ ts Qt, G ts Qt → ts.length = ps.length)
    (hbody : ∀ (cdv : Value) (A : Around) (outer : List Env) (s : Shared) (H : Hp) (E : XK), Room k (A.deeper (envOfC qual (defScope st) s.heap.objs.size f cdv)) →
      ∃ t, QSs (cxOf CX0 P w K mg base N qual (defScope st) f cdv A outer s H E).nox (defBody st) t ∧ ∃ u, ZS t u ∧ ∀ ts Qt, G ts Qt → u { nx := fun _ _ => Qt .non, rt := fun z M' => ∃ t, frzN 4 M' z = some t ∧ Qt t } (startU N (ts.map U.p)) []) : FnOk P w K mg base CX0 (k + 1) f fd ps (spP G) :=
  F.okP S len fun cdv A outer s H E hr => by
    obtain ⟨t, h, u, hu, q⟩ := hbody cdv A outer s H E hr
    exact ⟨t, h.h, u, hu.h, q⟩
end
end L2

namespace L2
open PySem PySem.Spec PyProof.Rows
/-! ### exceptions over trees -/
abbrev UX := Str → MM → Prop
abbrev UXe := UEnv → MM → UK → UX → Prop
def spX (mg : Str → Option Value) (G : List U → MM → UK → UX → Prop) : Sp := fun vs H Q E => ∃ A ι M us Qu Xu, Wd A ι H M ∧ RepUs A ι H vs us ∧ G us M Qu Xu ∧
  (∀ u M' ι' v H', Le ι H ι' H' → Wd A ι' H' M' → RepU A ι' H' v u → Qu u M' → Q v H') ∧ ∀ nm C M' ι' H', mg nm = some C → Le ι H ι' H' → Wd A ι' H' M' → Xu nm M' → E C none H'
structure ZXe (mg : Str → Option Value) (tx : TX) (ux : UXe) : Prop where
  h : ∀ (A : Addr → Prop) (ι : List Addr) (σ : St) (H : Hp) (ρ : UEnv) (M : MM) (Qu : UK) (Xu : UX) (Q : VK) (E : XK), Wd A ι H M → EnvR A ι H σ ρ → ux ρ M Qu Xu →
    (∀ u M' ι' v H', Le ι H ι' H' → Wd A ι' H' M' → RepU A ι' H' v u → Qu u M' → Q v H') → (∀ nm C M' ι' H', mg nm = some C → Le ι H ι' H' → Wd A ι' H' M' → Xu nm M' → E C none H') → tx σ H Q E
section
variable {mg : Str → Option Value} {tx : TX} {ux : UXe} {ta : TE} {ua : UE} {tl : TA} {ul : UA} {n : Nat} {ts tb : TS} {us ub : US} {C : Addr} {m : Str}
def uCallX (G : List U → MM → UK → UX → Prop) (ul : UA) : UXe := fun ρ M Q X => ul ρ M fun us M1 => G us M1 Q X
theorem cx_call {G : List U → MM → UK → UX → Prop} (ha : ZA n tl ul) : ZXe mg (tCallX (spX mg G) tl) (uCallX G ul) := ⟨fun A ι σ H ρ M Qu Xu Q E w e q k kx =>
  ha.h A ι σ H ρ M _ _ w e q fun us M1 ι1 vs H1 l1 w1 hn r1 q1 =>
    ⟨A, ι1, M1, us, _, _, w1, r1, q1, fun u M2 ι2 v H2 l2 w2 r2 q2 => k u M2 ι2 v H2 (l1.trans l2) w2 r2 q2, fun nm C M2 ι2 H2 hm l2 w2 q2 => kx nm C M2 ι2 H2 hm (l1.trans l2) w2 q2⟩⟩
def uMethX (C : Addr) (m : Str) (G : List U → MM → UK → UX → Prop) (ua : UE) (ul : UA) : UXe := fun ρ M Q X => ua ρ M fun x M1 => MethS C m x M1 (ul ρ M1 fun us M2 => G (x :: us) M2 Q X)
theorem cx_meth {G : List U → MM → UK → UX → Prop} (ha : ZE ta ua) (hl : ZA n tl ul) : ZXe mg (tMethX C m (spX mg G) ta tl) (uMethX C m G ua ul) := ⟨fun A ι σ H ρ M Qu Xu Q E w e q k kx =>
  ha.h A ι σ H ρ M _ _ w e q fun x M1 ι1 v1 H1 l1 w1 r1 ⟨kk, fs, ex, em, lk, q1⟩ => by
    subst ex
    have r1' := r1
    cases r1' with
    | m ek =>
    obtain ⟨dx, gs, h1, h2, h3, h4⟩ := w1.obj kk _ _ ek em
    refine ⟨_, dx, gs, rfl, h1, look_none h4 lk, hl.h A ι1 σ H1 ρ M1 _ _ w1 (e.le l1) q1 fun us M2 ι2 vs H2 l2 w2 hn r2 q2 => ?_⟩
    exact ⟨A, ι2, M2, _, _, _, w2, .cons (r1.le l2) r2, q2, fun u M3 ι3 v H3 l3 w3 r3 q3 => k u M3 ι3 v H3 ((l1.trans l2).trans l3) w3 r3 q3, fun nm C M3 ι3 H3 hm l3 w3 q3 => kx nm C M3 ι3 H3 hm ((l1.trans l2).trans l3) w3 q3⟩⟩
def tagU (nm : Str) (ρ : UEnv) : UEnv := some (.p (.str nm)) :: ρ
theorem tag_rep {A : Addr → Prop} {ι : List Addr} {H : Hp} {σ : St} {ρ : UEnv} {nm : Str} (e : EnvR A ι H σ ρ) : EnvR A ι H (some (.str nm) :: σ) (tagU nm ρ) := .cons (fun u q => by cases q; exact ⟨_, rfl, .p (.str _)⟩) e
def uDropX (ux : UXe) : US := fun E ρ M => ux ρ M (fun _ M1 => E.nx ρ M1) fun nm M1 => E.bk (tagU nm ρ) M1
theorem cs_dropX (h : ZXe mg tx ux) : ZS (tDropX tx mg) (uDropX ux) := ⟨fun A ι σ H ρ M D E w e r q =>
  h.h A ι σ H ρ M _ _ _ _ w e q (fun x M1 ι1 v H1 l1 w1 r1 q1 => r.nx ι1 σ H1 ρ M1 l1 w1 (e.le l1) q1) fun nm C M1 ι1 H1 hm l1 w1 q1 => ⟨nm, hm, r.bk ι1 _ H1 _ M1 l1 w1 (tag_rep (e.le l1)) q1⟩⟩
def uRetX (ux : UXe) : US := fun E ρ M => ux ρ M E.rt fun nm M1 => E.bk (tagU nm ρ) M1
theorem cs_retX (h : ZXe mg tx ux) : ZS (tRetX tx mg) (uRetX ux) := ⟨fun A ι σ H ρ M D E w e r q =>
  h.h A ι σ H ρ M _ _ _ _ w e q (fun x M1 ι1 v H1 l1 w1 r1 q1 => r.rt ι1 v H1 x M1 l1 w1 r1 q1) fun nm C M1 ι1 H1 hm l1 w1 q1 => ⟨nm, hm, r.bk ι1 _ H1 _ M1 l1 w1 (tag_rep (e.le l1)) q1⟩⟩
def uSetX (i : Nat) (ux : UXe) : US := fun E ρ M => ux ρ M (fun x M1 => E.nx (ρ.set i (some x)) M1) fun nm M1 => E.bk (tagU nm ρ) M1
theorem cs_setX {i : Nat} (h : ZXe mg tx ux) : ZS (tSetX i tx mg) (uSetX i ux) := ⟨fun A ι σ H ρ M D E w e r q =>
  h.h A ι σ H ρ M _ _ _ _ w e q (fun x M1 ι1 v H1 l1 w1 r1 q1 => r.nx ι1 _ H1 _ M1 l1 w1 ((e.le l1).put i r1) q1) fun nm C M1 ι1 H1 hm l1 w1 q1 => ⟨nm, hm, r.bk ι1 _ H1 _ M1 l1 w1 (tag_rep (e.le l1)) q1⟩⟩
def uRaise (x : Str) (ul : UA) : US := fun E ρ M => ul ρ M fun us M1 => us.length ≤ sizeLine ∧ E.bk (tagU x ρ) M1
theorem cs_raise {x : Str} (h : ZA n tl ul) : ZS (tRaise x tl) (uRaise x ul) := ⟨fun A ι σ H ρ M D E w e r q =>
  h.h A ι σ H ρ M _ _ w e q fun us M1 ι1 vs H1 l1 w1 hn r1 ⟨hl, q1⟩ => ⟨by rw [r1.len]; exact hl, r.bk ι1 _ H1 _ M1 l1 w1 (tag_rep (e.le l1)) q1⟩⟩
def uTry (n : Nat) (ub : US) (l : List (Str × US)) : US := fun E ρ M => ub { E with bk := fun τ M' => ∃ nm ρ' u, τ = tagU nm ρ' ∧ ρ'.length = n ∧ l.lookup nm = some u ∧ u E ρ' M' } ρ M
structure ZHs (l : List (Str × TS)) (l' : List (Str × US)) : Prop where
  h : ∀ nm u, l'.lookup nm = some u → ∃ t, l.lookup nm = some t ∧ LS t u
theorem zh_nil : ZHs [] [] := ⟨fun nm u e => by simp at e⟩
theorem zh_cons {x : Str} {t : TS} {u : US} {l : List (Str × TS)} {l' : List (Str × US)} (h : ZS t u) (hr : ZHs l l') : ZHs ((x, t) :: l) ((x, u) :: l') := ⟨fun nm v e => by
  rw [List.lookup_cons] at e ⊢
  cases hx : (nm == x) with
  | true => rw [hx] at e; cases e; exact ⟨t, rfl, h.h⟩
  | false => rw [hx] at e; exact hr.h nm v e⟩
theorem cs_try {l : List (Str × TS)} {l' : List (Str × US)} (hb : ZS tb ub) (hl : ZHs l l') : ZS (tTry n tb l) (uTry n ub l') := ⟨fun A ι σ H ρ M D E w e r q =>
  hb.h A ι σ H ρ M _ { E with bk := fun τ M' => ∃ nm ρ' u, τ = tagU nm ρ' ∧ ρ'.length = n ∧ l'.lookup nm = some u ∧ u E ρ' M' } w e ⟨r.nx, r.rt, fun ι1 σ1 H1 ρ1 M1 l1 w1 e1 q1 => by
    obtain ⟨nm, ρ', u, rfl, hn, hu, q1⟩ := q1
    obtain ⟨t, ht, lk⟩ := hl.h nm u hu
    cases e1 with
    | cons a b =>
    obtain ⟨v, rfl, rv⟩ := a _ rfl
    cases rv with
    | p rv =>
    cases rv
    exact ⟨nm, _, t, rfl, by rw [b.length]; exact hn, ht, lk A ι1 _ H1 ρ' M1 D E w1 b (r.le l1) q1⟩, r.ct⟩ q⟩
end
section
variable {P : Program} {w : World} {K : PySem.W.Frag} {mg : Str → Option Value} {base : Heap}
/-- what a def that may raise is asked for -/
def endX (n : Nat) (Qu : UK) (Xu : UX) : UEnds := { nx := fun _ M' => Qu (.p .non) M', rt := Qu, bk := fun τ M' => ∃ nm ρ, τ = tagU nm ρ ∧ ρ.length = n ∧ Xu nm M' }
theorem Fun.zX {x qual : Str} {st : Stmt} {f : Addr} {fd : FuncData} {N ps : List Str} {k : Nat} {G : List U → MM → UK → UX → Prop} (F : Fun K x qual st f fd) (S : FnScope N ps (defScope st)) (len : ∀ us M Qu Xu, G us M Qu Xu → us.length = ps.length)
    (hbody : ∀ (cdv : Value) (A : Around) (outer : List Env) (s : Shared) (H : Hp) (E : XK), Room k (A.deeper (envOfC qual (defScope st) s.heap.objs.size f cdv)) →
      ∃ t, QXs True (cxOf (CXe P w) P w K mg base N qual (defScope st) f cdv A outer s H E) (defBody st) t ∧ ∃ u, ZS t u ∧ ∀ us M Qu Xu, G us M Qu Xu → u (endX N.length Qu Xu) (startU N us) M) : FnOk P w K mg base (CXe P w) (k + 1) f fd ps (spX mg G) := by
  refine F.okX S (fun vs H Q E h => ?_) (fun cdv A outer s H vs Q E hr h => ?_)
  · obtain ⟨A, ι, M, us, Qu, Xu, w1, r, g, _⟩ := h
    rw [r.len]; exact len us M Qu Xu g
  · obtain ⟨B, ι, M, us, Qu, Xu, w1, r, g, kk, kx⟩ := h
    obtain ⟨t, ht, u, hu, hb⟩ := hbody cdv A outer s H E hr
    refine ⟨t, ht, hu.h B ι _ H _ M _ (endX N.length Qu Xu) w1 (start_rep r) ⟨fun ι1 σ1 H1 ρ1 M1 l1 w1 e1 q1 => kk _ M1 ι1 _ H1 l1 w1 (.p .non) q1, fun ι1 v H1 z M1 l1 w1 r1 q1 => kk z M1 ι1 v H1 l1 w1 r1 q1, fun ι1 σ1 H1 ρ1 M1 l1 w1 e1 q1 => ?_, fun _ _ _ _ _ _ _ _ q => q.elim⟩ (hb us M Qu Xu g)⟩
    obtain ⟨nm, ρ, rfl, hn, q1⟩ := q1
    cases e1 with
    | cons a b =>
    obtain ⟨v, rfl, rv⟩ := a _ rfl
    cases rv with
    | p rv =>
    cases rv
    exact ⟨nm, _, rfl, by rw [b.length]; exact hn, fun C hm => kx nm C M1 ι1 H1 hm l1 w1 q1⟩
end
end L2
namespace L2
open PySem PySem.Spec PyProof.Rows
theorem hh_nil {X : Cx} {hs : List ExceptHandler} : ∀ nm t C, ([] : List (Str × TS)).lookup nm = some t → X.mg nm = some C → QH X hs C t := fun nm t C e _ => by simp at e
theorem hh_cons {X : Cx} {hs : List ExceptHandler} {x : Str} {C : Value} {t : TS} {l : List (Str × TS)} (hb : X.mg x = some C) (h : QH X hs C t) (hr : ∀ nm t C, l.lookup nm = some t → X.mg nm = some C → QH X hs C t) :
    ∀ nm t' C', ((x, t) :: l).lookup nm = some t' → X.mg nm = some C' → QH X hs C' t' := fun nm t' C' e hm => by
  rw [List.lookup_cons] at e
  cases hx : (nm == x) with
  | true =>
    rw [hx] at e
    cases e
    rw [eq_of_beq hx, hb] at hm
    cases hm
    exact h
  | false => rw [hx] at e; exact hr nm t' C' e hm
end L2

namespace L2
open PySem PySem.Spec PyProof.Rows
/-! ### xs[::-1] over trees -/
theorem range_rev (n : Nat) : ((List.range n).map fun (k : Nat) => ((n : Int) - 1 + -1 * (k : Int)).toNat) = (List.range n).reverse := by
  apply List.ext_getElem
  · simp
  · intro i h1 h2
    simp at h1 h2
    simp only [List.getElem_map, List.getElem_range, List.getElem_reverse, List.length_range]
    omega
theorem ixRev_eq (n : Nat) : ixRev n = (List.range n).reverse := by
  rw [← range_rev]
  unfold ixRev sliceRange sliceBounds
  have h0 : ¬ ((-1 : Int) > 0) := by decide
  simp only [Option.getD_some, h0, if_false]
  cases n with
  | zero => rfl
  | succ m =>
    have e : (if ((m + 1 : Nat) : Int) - 1 > -1 then (((m + 1 : Nat) : Int) - 1 - -1 - -1 - 1) / - -1 else 0).toNat = m + 1 := by
      rw [if_pos (by omega)]
      simp
    rw [e]
theorem range_pick {α : Type} : ∀ xs : List α, (List.range xs.length).filterMap (fun i => xs[i]?) = xs
  | [] => rfl
  | x :: xs => by
    rw [List.length_cons, List.range_succ_eq_map, List.filterMap_cons]
    simp only [List.getElem?_cons_zero, List.filterMap_map]
    rw [show ((fun i => (x :: xs)[i]?) ∘ Nat.succ) = fun i => xs[i]? from funext fun i => by simp]
    rw [range_pick xs]
theorem pickV_eq (xs : List V) : pickV xs = xs.reverse := by
  unfold pickV
  rw [ixRev_eq, List.filterMap_reverse, range_pick]
theorem Paired.app {α β : Type} {F : α → β → Prop} : ∀ {a c : List α} {b d : List β}, Paired F a b → Paired F c d → Paired F (a ++ c) (b ++ d)
  | _, _, _, _, .nil, h => h
  | _, _, _, _, .cons x y, h => .cons x (Paired.app y h)
section
variable {ta : TE} {ua : UE} {K : PySem.W.Frag} {M : MM} {ρ : UEnv} {Q : UK}
def RevLS (M : MM) (x : U) (Q : UK) : Prop := ∃ ts, sn M x = some (.lst ts) ∧ Q (.p (.lst ts.reverse)) M
def uRevL (ua : UE) : UE := fun ρ M Q => ua ρ M fun x M1 => RevLS M1 x Q
theorem rev_rep {A : Addr → Prop} {H : Hp} {vs : List V} {ts : List T} (r : RepTs A H vs ts) : RepTs A H vs.reverse ts.reverse := by
  induction r with
  | nil => exact .nil
  | cons a b ih =>
    rw [List.reverse_cons, List.reverse_cons]
    exact Paired.app ih (.cons a .nil)
theorem le_revL (ha : LE ta ua) : LE (tRev K ta) (uRevL ua) := fun A ι σ H ρ M Qu Q w e q k =>
  ha A ι σ H ρ M _ _ w e q fun x M1 ι1 v H1 l1 w1 r1 ⟨ts, es, q1⟩ => by
    obtain ⟨p, vs, rfl, h4, h5⟩ := (r1.sn w1 es).lst_inv
    refine ⟨p, vs, rfl, SqL.of h4, fun r hr => ?_⟩
    rw [pickV_eq]
    exact k _ M1 ι1 _ _ (l1.trans (.fresh hr)) (w1.fresh hr) (.p (fresh_lst w1 hr (rev_rep h5))) q1
theorem ce_revL (ha : ZE ta ua) : ZE (tRev K ta) (uRevL ua) := ⟨le_revL ha.h⟩
theorem rd_revL : uRevL ua ρ M Q = ua ρ M fun x M1 => RevLS M1 x Q := rfl
end
end L2

namespace Hd
open PySem PySem.W PySem.Calls PyProof.Rows
/-- the top's run over a heap that is a tree -/
def topT (tb : String → Option Builtin) (p : Program) (w : World) (m : Nat) (an : Option Value) : Nat → SharedT → Thread → Option SharedT
  | 0, _, _ => none
  | k + 1, s, t => match through t with
    | true => some s
    | false => match stepOk m an t with
      | false => none
      | true => match stepT (denote tb) p w s t with
        | some (s1, t1) => topT tb p w m an k s1 t1
        | none => none
theorem topT_run {tb : String → Option Builtin} {p : Program} {w : World} {m : Nat} {an : Option Value} :
    ∀ {k : Nat} {s r : SharedT} {t : Thread}, topT tb p w m an k s t = some r → topRun tb p w m an k s.abs t = some r.abs
  | 0, _, _, _, h => by cases h
  | k + 1, s, r, t, h => by
    unfold topT at h
    unfold topRun
    cases ht : through t with
    | true => rw [ht] at h; cases h; rfl
    | false =>
      rw [ht] at h
      cases hk : stepOk m an t with
      | false => rw [hk] at h; cases h
      | true =>
        rw [hk] at h
        cases hs : stepT (denote tb) p w s t with
        | none => rw [hs] at h; cases h
        | some x =>
          obtain ⟨s1, t1⟩ := x
          rw [hs] at h
          rw [stepT_spec hs]
          exact topT_run h
/-- the booted heap, as a tree -/
noncomputable def bootT (P : Params) : BT :=
  .node (boot_o_0 P) (.node (boot_o_1 P) (.node (boot_o_3 P) (.node (boot_o_7 P) .nil .nil) .nil) (.node (boot_o_5 P) (.node (boot_o_9 P) .nil .nil) .nil))
    (.node (boot_o_2 P) (.node (boot_o_4 P) (.node (boot_o_8 P) .nil .nil) .nil) (.node (boot_o_6 P) (.node (boot_o_10 P) .nil .nil) .nil))
abbrev bootL : Life := {}
theorem boot_tree (P : Params) : boot_heap P = absHeap (bootT P) 11 bootL := by kernel_rfl
/-- how the top starts -/
noncomputable def S0 (w : World) (os : OsState) : SharedT := ⟨bootT w.params, 11, bootL, #[], boot_drawn, boot_toks, os⟩
/-- what is looked at behind the run -/
noncomputable def Look (p q : Program) (loose : List Str) (Xt : Shared → Bool) {α : Type} (Yf : Shared → α) (w : World) (s : Shared) :=
  ((staticsOk (importedModules p.main.body) (boot_heap w.params) s.heap && namesBound p s.heap && gensDone s && laidKept (boot_heap w.params) s.heap), openSeen q loose (importedModules p.main.body) Xt true s, Yf s)
theorem left_of {p q : Program} {loose : List Str} {Xt : Shared → Bool} {α : Type} {Yf : Shared → α} {Ya : World → α} {N M : Nat}
    (e : opening p = plainProg p.main.scope.names) (hN : Nat.ble 600 N = true) (f : ∀ s, fenceModules? p s = some s) (le : Nat.ble M N = true)
    (run : ∀ w os, (topT treeTable p w 11 (some (.ref 6)) M (S0 w os) (topStub p)).map (fun s => Look p q loose Xt Yf w s.abs) = some (true, openGood q loose, Ya w))
    (hs : ∀ P : Params, ((boot_heap P).isNs mainGlobals, (boot_heap P).nsMap mainGlobals "__annotations__") = (true, some (.ref 6))) : LeftO p q loose Xt Yf Ya N := fun w => by
  obtain ⟨⟨h, gs, d, k, os⟩, e1, e2⟩ := Option.map_eq_some_iff.mp (boot_open e hN f w)
  obtain ⟨rfl, rfl, rfl, rfl⟩ : h = boot_heap w.params ∧ gs = Array.mk [] ∧ d = boot_drawn ∧ k = boot_toks := by simpa using e2
  obtain ⟨z1, z3⟩ : _ ∧ _ := by simpa only [Prod.mk.injEq] using hs w.params
  obtain ⟨r, r1, r2⟩ := Option.map_eq_some_iff.mp (run w os)
  obtain ⟨l1, l2, l3⟩ : _ ∧ _ ∧ _ := by simpa only [Look, Prod.mk.injEq] using r2
  have r3 := topRun_mono (N - M) _ _ _ _ (topT_run r1)
  rw [show M + (N - M) = N by have := Nat.le_of_ble_eq_true le; omega] at r3
  have a : (S0 w os).abs = ⟨boot_heap w.params, #[], boot_drawn, boot_toks, os⟩ := by rw [boot_tree]; rfl
  rw [a] at r3
  have t : topFrom treeTable p w N ⟨boot_heap w.params, #[], boot_drawn, boot_toks, os⟩ = some r.abs := by
    unfold topFrom
    dsimp only
    rw [z1, z3, show (boot_heap w.params).objs.size = 11 from rfl, r3]
    show (match staticsOk (importedModules p.main.body) (boot_heap w.params) r.abs.heap && namesBound p r.abs.heap && gensDone r.abs && laidKept (boot_heap w.params) r.abs.heap with | true => _ | false => _) = _
    rw [l1]
  unfold openEnds
  rw [e1]
  show (topFrom treeTable p w N _).map _ = _
  rw [t]
  exact congrArg some (Prod.ext l2 l3)
theorem boot_main (P : Params) : ((boot_heap P).isNs mainGlobals, (boot_heap P).nsMap mainGlobals "__annotations__") = (true, some (.ref 6)) := by kernel_rfl
end Hd
namespace Hd
open PySem PySem.W PySem.Calls PyProof.Rows
theorem close {r : OpenRow} {q : Program} {loose : List Str} {lv : List (Str × WData)} {H : Hook} {d : DefRec} {kwd : List (Str × Expr)} {N : Nat}
    (left : LeftO r.prog q loose (fun s => xlAt q lv s && recOk (RowW.records (OpenRow.toRowW r)) s) H.obs H.val N) (h1 : defOf q r.name = some (d, kwd)) (h2 : r.prog.theDef r.name = some (d.params, d.body, d.scope))
    (h3 : kwWritten? d.params.kwonlyargs d.params.kw_defaults = some kwd) (h4 : (!r.writes || r.records.isEmpty) = true) (h5 : r.wellSaid = true) (h6 : (chainsOk q && opensWell r.prog && (frees r.toRowW && r.within.isEmpty)) = true) (h7 : r.prog.bare)
    (hw : r.toRowW.promised) (hc : WalkO q loose (XL q lv) H.says r.toRowW d kwd fun f vs => PySem.call f vs) : r.Holds :=
  holds_open left H.of H.keeps (fun s z => xl_of s (Bool.and_eq_true_iff.mp z).1) XL.keeps h1 h2 h3 (fun s z => recFacts_of (Bool.and_eq_true_iff.mp z).2) h4 h5 h6 h7 hw hc
end Hd

set_option maxHeartbeats 4000000
namespace Mw
open PySem L2 PyProof.Rows
def top (i : Nat) : Stmt := PySem.Challenge.pw_markwords_k03_quotients.main.body.getD i (.Pass ⟨0, 0, 0, 0⟩)
local macro_rules | `(tactic| walk_at "hp") => `(tactic| first | assumption | exact upd_same | (refine upd_old (by assumption) ?_; walk_at "hp") | (refine upd_else (by first | assumption | (apply Ne.symm; assumption)) ?_; walk_at "hp"))
section
variable {P : Program} {w : World} {K : PySem.W.Frag} {mg : Str → Option Value} {base : Heap}
abbrev sBag : Stmt := top 15
theorem scBag : FnScope ["script", "stir", "cell"] ["script"] (defScope sBag) := ⟨rfl, rfl, rfl, by decide +kernel, rfl, by decide +kernel, by decide +kernel⟩
abbrev sDraw : Stmt := top 16
theorem scDraw : FnScope ["bag", "many", "found"] ["bag", "many"] (defScope sDraw) := ⟨rfl, rfl, rfl, by decide +kernel, rfl, by decide +kernel, by decide +kernel⟩
/-- the law's bag -/
structure BagAt (H : Hp) (b : Addr) : Prop where
  ex : ∃ (c : Addr) (ns : List Int) (i a st n : Int), H b = some (.lst [.ref c, .int i, .int a, .int st, .int n]) ∧ H c = some (.lst (ns.map V.int)) ∧ 0 ≤ i ∧ i ≤ ns.length ∧ ns.length ≤ 63 ∧ (∀ x ∈ ns, 0 ≤ x) ∧ 0 ≤ a ∧ 0 ≤ st ∧ st < 2147483647
def spBag (K : PySem.W.Frag) : Sp := fun vs H Q _ => ∃ (a : Addr) (ns : List Int), vs = [.ref a] ∧ SqL K H a (ns.map V.int) ∧ ns.length ≤ 63 ∧ ∀ (b : Addr) (H' : Hp), H b = none → Same H H' → BagAt H' b → Q (.ref b) H'
theorem cut63 (ns : List Int) (h : ns.length ≤ 63) : cutV (ns.map V.int) none (some 63) = ns.map V.int := by
  unfold cutV
  have e1 : HT.sIx (ns.map V.int).length 0 none = 0 := rfl
  have e2 : HT.sIx (ns.map V.int).length (ns.map V.int).length (some 63) = min 63 (ns.map V.int).length := HT.sIx_nat _ _ 63
  rw [e1, e2]
  simp only [List.drop_zero, List.length_map]
  rw [List.take_of_length_le]
  simp; omega
theorem get_ints {ns : List Int} {i : Nat} {y : V} (h : (ns.map V.int)[i]? = some y) : ∃ z, y = V.int z ∧ ns[i]? = some z := by
  rw [List.getElem?_map] at h
  cases e : ns[i]? with
  | none => rw [e] at h; cases h
  | some z => rw [e] at h; exact ⟨z, (Option.some.inj h).symm, rfl⟩
theorem ok_bag {f : Addr} {fd : FuncData} (F : Fun K "_law_bag" "_law_bag" sBag f fd) (N : Nms mg) : FnOk P w K mg base CX0 1 f fd ["script"] (spBag K) := by
  refine F.okQ scBag (fun vs H Q E h => ?_) (fun cdv A outer s H vs Q E hr h => ?_)
  · obtain ⟨a, ns, rfl, _⟩ := h
    rfl
  · obtain ⟨a, ns, rfl, hS, hlen, k⟩ := h
    refine ⟨_, (qss_cons (qs_set (i := 1) scBag.nd rfl (Or.inl rfl) qe_int)
    (qss_cons (qs_for PassesOwn.never rfl (qi_listK (K := K) rfl (qe_slice (sl_listK (K := K) rfl) (qv 0) qo_none (qo_some qe_int))) (qg_name (i := 2) scBag.nd rfl (Or.inl rfl))
      (qss_one (qs_set (i := 1) scBag.nd rfl (Or.inl rfl) (qe_op op_mod (qe_op op_add (qe_op op_add (qe_op op_mul (qv 1) qe_int) (qe_op op_mod (qv 2) qe_int)) qe_int) qe_int))))
    (qss_one (qs_ret (qe_lst (qa_c (qe_lc [false, false, false] [] (qi_listK (K := K) rfl (qe_slice (sl_listK (K := K) rfl) (qv 0) qo_none (qo_some qe_int))) (fun _ _ _ => (qg_name (i := 2) scBag.nd rfl (Or.inl rfl))) (fun _ _ _ => qts_nil) (fun _ _ _ => (qe_op op_mod (qe_callB call_abs (by rfl) N.abs b_abs (qa_c (qv 2) qa_nil)) (qe_op op_pow qe_int qe_int)))) (qa_c qe_int (qa_c qe_int (qa_c (qv 1) (qa_c qe_int qa_nil)))))))))), ?_⟩
    refine ⟨_, rfl, _, rfl, a, _, rfl, hS, fun p hp => ?_⟩
    rw [cut63 ns hlen]
    refine ⟨p, rfl, ⟨_, SqL.of upd_same⟩, for_list (K := K) (a := p) (xs := ns.map V.int) (fun i σ H2 => ∃ (st : Int) (v : Option V), σ = [some (.ref a), some (.int st), v] ∧ 0 ≤ st ∧ st < 2147483647 ∧ H2 = upd H p (.lst (ns.map V.int)))
      ⟨17, none, rfl, by decide, by decide, rfl⟩ (fun i σ H2 _ ⟨_, _, _, _, _, e⟩ => by rw [e]; exact SqL.of upd_same) ?_ ?_⟩
    · rintro i y σ H2 hi ⟨st, v, rfl, h0, h1, rfl⟩
      obtain ⟨z, rfl, _⟩ := get_ints hi
      (simp only [L2.start, tSeq, tNext, tAsg, tOp, tUn, tVar, tC, gName, gSub, tRet, tRetN, tIfS, tDrop, tLM, tTru, tCall, tBM, tBM0, tRev, tChain, tComp, rd_for, rd_iList, rd_iRng1, rd_iRev, rd_iEnum, rd_pi, tSl, tNoPart, tPart, rd_I, rd_I0, rd_U, rd_test, rd_bl, tCB, tCons, tNil, tTup, tLst, tYes, tAnd, tOr, tNot, tB, tIf, tAndV, tOrV, tNotV, tTest, rd_l1, rd_l2, rd_lr, List.getElem?_cons_zero, List.getElem?_cons_succ, Option.some.injEq, exists_eq_left', List.set_cons_zero, List.set_cons_succ, maskS, List.zip_cons_cons, List.zip_nil_left, List.zip_nil_right, List.map_cons, List.map_nil, List.length_cons, List.length_nil, List.replicate, List.append_nil, List.nil_append, List.cons_append, Bool.false_eq_true, if_true, if_false, decide_eq_true_eq, Nat.zero_add, dec_eq_int, dec_eq_str])
      refine ⟨.inr ⟨by decide, by decide⟩, by decide, by decide, _, _, rfl, Int.emod_nonneg _ (by decide), Int.emod_lt_of_pos _ (by decide), trivial⟩
    · rintro σ H2 ⟨st, v, rfl, h0, h1, rfl⟩
      have hS2 : SqL K (upd H p (.lst (ns.map V.int))) a (ns.map V.int) := ((Same.refl H).upd hp).seq hS
      refine ⟨_, rfl, _, rfl, a, _, rfl, hS2, fun p2 hp2 => ?_⟩
      rw [cut63 ns hlen]
      obtain ⟨f2, n2⟩ := free_upd hp2
      refine ⟨p2, rfl, ⟨_, SqL.of upd_same⟩, fun acc hacc => ?_⟩
      obtain ⟨g1, n3⟩ := free_upd hacc
      obtain ⟨g2, n4⟩ := free_upd g1
      refine comp_list (xs := ns.map V.int) (fun i H3 => ∃ ys : List Int, H3 acc = some (.lst (ys.map V.int)) ∧ ys.length = i ∧ (∀ y ∈ ys, 0 ≤ y) ∧ H3 p2 = some (.lst (ns.map V.int)) ∧ Same H H3) ?_ ?_ ?_ ?_
      · exact ⟨[], upd_same, rfl, (fun _ h => nomatch h), upd_old hacc upd_same, (((Same.refl H).upd hp).upd f2).upd g2⟩
      · rintro i H3 _ ⟨ys, _, _, _, e, _⟩
        exact SqL.of e
      · rintro i y H3 hi ⟨ys, e1, e2, e3, e4, e5⟩
        obtain ⟨z, rfl, hz⟩ := get_ints hi
        have hil : i < ns.length := (List.getElem?_eq_some_iff.mp hz).1
        (simp only [L2.start, tSeq, tNext, tAsg, tOp, tUn, tVar, tC, gName, gSub, tRet, tRetN, tIfS, tDrop, tLM, tTru, tCall, tBM, tBM0, tRev, tChain, tComp, rd_for, rd_iList, rd_iRng1, rd_iRev, rd_iEnum, rd_pi, tSl, tNoPart, tPart, rd_I, rd_I0, rd_U, rd_test, rd_bl, tCB, tCons, tNil, tTup, tLst, tYes, tAnd, tOr, tNot, tB, tIf, tAndV, tOrV, tNotV, tTest, rd_l1, rd_l2, rd_lr, List.getElem?_cons_zero, List.getElem?_cons_succ, Option.some.injEq, exists_eq_left', List.set_cons_zero, List.set_cons_succ, maskS, List.zip_cons_cons, List.zip_nil_left, List.zip_nil_right, List.map_cons, List.map_nil, List.length_cons, List.length_nil, List.replicate, List.append_nil, List.nil_append, List.cons_append, Bool.false_eq_true, if_true, if_false, decide_eq_true_eq, Nat.zero_add, dec_eq_int, dec_eq_str])
        refine ⟨⟨by (repeat (first | exact ExtS.nl | refine ExtS.sm ?_ | refine ExtS.no ?_)), trivial⟩, ⟨by decide, by decide, by decide⟩, by decide, ys.map V.int, e1, small1000 (by simp; omega), ys ++ [(if z < 0 then -z else z) % 10 ^ (60 : Int).toNat], ?_, by simp [e2], ?_, upd_else n3.symm e4, e5.upd g2⟩
        · rw [upd_same, List.map_append]; rfl
        · intro y hy
          rcases List.mem_append.mp hy with h | h
          · exact e3 y h
          · rw [List.mem_singleton.mp h]; exact Int.emod_nonneg _ (by decide)
      · rintro H3 ⟨ys, e1, e2, e3, e4, e5⟩
        rw [List.length_map] at e2
        (simp only [L2.start, tSeq, tNext, tAsg, tOp, tUn, tVar, tC, gName, gSub, tRet, tRetN, tIfS, tDrop, tLM, tTru, tCall, tBM, tBM0, tRev, tChain, tComp, rd_for, rd_iList, rd_iRng1, rd_iRev, rd_iEnum, rd_pi, tSl, tNoPart, tPart, rd_I, rd_I0, rd_U, rd_test, rd_bl, tCB, tCons, tNil, tTup, tLst, tYes, tAnd, tOr, tNot, tB, tIf, tAndV, tOrV, tNotV, tTest, rd_l1, rd_l2, rd_lr, List.getElem?_cons_zero, List.getElem?_cons_succ, Option.some.injEq, exists_eq_left', List.set_cons_zero, List.set_cons_succ, maskS, List.zip_cons_cons, List.zip_nil_left, List.zip_nil_right, List.map_cons, List.map_nil, List.length_cons, List.length_nil, List.replicate, List.append_nil, List.nil_append, List.cons_append, Bool.false_eq_true, if_true, if_false, decide_eq_true_eq, Nat.zero_add, dec_eq_int, dec_eq_str])
        refine ⟨by decide, fun b hb => ?_⟩
        refine k b _ (e5.free hb) (e5.upd (e5.free hb)) ⟨acc, ys, 0, 0, st, 0, upd_same, upd_old hb e1, by decide, by omega, by omega, e3, by decide, h0, h1⟩
theorem bag_ne {H : Hp} {b c : Addr} {ns : List Int} {i a st n : Int} (hb : H b = some (.lst [.ref c, .int i, .int a, .int st, .int n])) (hc : H c = some (.lst (ns.map V.int))) : c ≠ b := by
  intro e
  subst e
  rw [hb] at hc
  injection hc with hc
  injection hc with hc
  cases ns with
  | nil => cases hc
  | cons z r => cases hc
/-- the list that the bag holds on to -/
def headOf (H : Hp) (b c : Addr) : Prop := ∃ r, H b = some (.lst (.ref c :: r))
theorem head_keep {H H' : Hp} {b c : Addr} {r r' : List V} (h : H b = some (.lst (.ref c :: r))) (h' : H' b = some (.lst (.ref c :: r'))) : ∀ c', headOf H b c' → headOf H' b c' := fun c' ⟨q, e⟩ => by
  rw [h] at e
  injection e with e
  injection e with e
  injection e with e _
  injection e with e
  subst e
  exact ⟨r', h'⟩
theorem head_inj {H : Hp} {b c c' : Addr} (h : headOf H b c) (h' : headOf H b c') : c = c' := by
  obtain ⟨q, e⟩ := h
  obtain ⟨q', e'⟩ := h'
  rw [e] at e'
  injection e' with e'
  injection e' with e'
  injection e' with e' _
  injection e'
def spDraw2 : Sp := fun vs H Q _ => ∃ (b : Addr) (many : Int), vs = [.ref b, .int many] ∧ BagAt H b ∧ 0 < many ∧ many.natAbs.log2 < 9000 ∧ ∀ (found : Int) (H' : Hp), 0 ≤ found → found < many → BagAt H' b → (∀ x, x ≠ b → H' x = H x) → (∀ c, headOf H b c → headOf H' b c) → Q (.int found) H'
theorem BagAt.put {H : Hp} {b p c0 : Addr} {o : HO} (h : BagAt H b) (hh : headOf H b c0) (n1 : p ≠ b) (n2 : p ≠ c0) : BagAt (L2.upd H p o) b := by
  obtain ⟨c, ns, i, a, st, n, hb, hc, r⟩ := h.ex
  have e : c0 = c := by
    obtain ⟨q, e⟩ := hh
    rw [hb] at e
    injection e with e
    injection e with e
    injection e with e _
    injection e with e
    exact e.symm
  subst e
  exact ⟨c0, ns, i, a, st, n, upd_else n1.symm hb, upd_else n2.symm hc, r⟩
theorem ok_draw2 {f : Addr} {fd : FuncData} (F : Fun K "_law_draw" "_law_draw" sDraw f fd) (N : Nms mg) : FnOk P w K mg base CX0 1 f fd ["bag", "many"] spDraw2 := by
  refine F.okQ scDraw (fun vs H Q E h => ?_) (fun cdv A outer s H vs Q E hr h => ?_)
  · obtain ⟨b, m, rfl, _⟩ := h
    rfl
  · obtain ⟨b, many, rfl, ⟨c, ns, i, a, st, n, hb, hc, i0, i1, hl, hns, a0, s0, s1⟩, m0, mb, k⟩ := h
    have hcb := bag_ne hb hc
    refine ⟨_, (qss_cons (qs_if (qw_pt (qw_and (qt_cmpR op_eq (qe_ix (ix_listK (K := K) rfl) (qv 0) qe_int (fun _ _ => rfl)) qe_int (nomark _)) (qw_and1 (qt_cmpR op_lt (qe_ix (ix_listK (K := K) rfl) (qv 0) qe_int (fun _ _ => rfl)) (qe_callB call_lenL (by rfl) N.len b_len (qa_c (qe_ix (ix_listK (K := K) rfl) (qv 0) qe_int (fun _ _ => rfl)) qa_nil)) (nomark _)))))
      (qss_cons (qs_asg (qe_ix (ix_listK (K := K) rfl) (qe_ix (ix_listK (K := K) rfl) (qv 0) qe_int (fun _ _ => rfl)) (qe_ix (ix_listK (K := K) rfl) (qv 0) qe_int (fun _ _ => rfl)) (fun _ _ => rfl)) (qg_sub (qv 0) qe_int set_list))
      (qss_one (qs_asg (qe_op op_add (qe_ix (ix_listK (K := K) rfl) (qv 0) qe_int (fun _ _ => rfl)) qe_int) (qg_sub (qv 0) qe_int set_list))))
      (qss_one (qs_if (qt_cmpR op_eq (qe_ix (ix_listK (K := K) rfl) (qv 0) qe_int (fun _ _ => rfl)) qe_int (nomark _))
        (qss_cons (qs_asg (qe_op op_add (qe_ix (ix_listK (K := K) rfl) (qv 0) qe_int (fun _ _ => rfl)) qe_int) (qg_sub (qv 0) qe_int set_list))
        (qss_cons (qs_asg (qe_op op_mod (qe_op op_add (qe_op op_add (qe_op op_add (qe_op op_pow (qe_ix (ix_listK (K := K) rfl) (qv 0) qe_int (fun _ _ => rfl)) qe_int) (qe_op op_mul qe_int (qe_ix (ix_listK (K := K) rfl) (qv 0) qe_int (fun _ _ => rfl)))) (qe_op op_mul qe_int (qe_ix (ix_listK (K := K) rfl) (qv 0) qe_int (fun _ _ => rfl)))) qe_int) qe_int) (qg_sub (qv 0) qe_int set_list))
        (qss_one (qs_ret (qe_op op_mod (qe_op op_fdivB (qe_ix (ix_listK (K := K) rfl) (qv 0) qe_int (fun _ _ => rfl)) qe_int) (qv 1))))))
        qss_nil)))
    (qss_cons (qs_set (i := 2) scDraw.nd rfl (Or.inl rfl) (qe_op op_mod (qe_ix (ix_listK (K := K) rfl) (qv 0) qe_int (fun _ _ => rfl)) (qv 1)))
    (qss_cons (qs_asg (qe_op op_fdivB (qe_ix (ix_listK (K := K) rfl) (qv 0) qe_int (fun _ _ => rfl)) (qv 1)) (qg_sub (qv 0) qe_int set_list))
    (qss_one (qs_ret (qv 2)))))), ?_⟩
    (repeat (first | (simp only [L2.start, tSeq, tNext, tAsg, tOp, tUn, tVar, tC, gName, gSub, tRet, tRetN, tIfS, tDrop, tLM, tTru, tCall, tBM, tBM0, tRev, tChain, tComp, rd_for, rd_iList, rd_iRng1, rd_iRev, rd_iEnum, rd_pi, tSl, tNoPart, tPart, rd_I, rd_I0, rd_U, rd_test, rd_bl, tCB, tCons, tNil, tTup, tLst, tYes, tAnd, tOr, tNot, tB, tIf, tAndV, tOrV, tNotV, tTest, rd_l1, rd_l2, rd_lr, List.getElem?_cons_zero, List.getElem?_cons_succ, Option.some.injEq, exists_eq_left', List.set_cons_zero, List.set_cons_succ, maskS, List.zip_cons_cons, List.zip_nil_left, List.zip_nil_right, List.map_cons, List.map_nil, List.length_cons, List.length_nil, List.replicate, List.append_nil, List.nil_append, List.cons_append, Bool.false_eq_true, if_true, if_false, decide_eq_true_eq, Nat.zero_add, dec_eq_int, dec_eq_str]) | refine ixL_at (by walk_at "hp") rfl ?_ | refine ixT_at (by walk_at "hp") rfl ?_ | refine ixL_at (by walk_at "hp") at0 ?_ | refine setL_at (by walk_at "hp") rfl ?_ | refine len_at (by walk_at "hp") ?_ | refine gTup2_at (by walk_at "hp") ?_ | refine gTup3_at (by walk_at "hp") ?_ | refine lm_at (by walk_at "hp") ?_ | refine it_at (by walk_at "hp") ?_ | refine eq_at rfl ?_ | refine ne_at rfl ?_))
    have fin : ∀ (z : Int) (H' : Hp) (i' a' st' n' : Int), 0 ≤ z → H' b = some (.lst [.ref c, .int i', .int (z / many), .int st', .int n']) → (∀ x, x ≠ b → H' x = H x) → 0 ≤ i' → i' ≤ ns.length → 0 ≤ st' → st' < 2147483647 → Q (.int (z % many)) H' := fun z H' i' a' st' n' hz e1 e2 e3 e4 e5 e6 =>
      k _ _ (Int.emod_nonneg _ (by omega)) (Int.emod_lt_of_pos _ m0) ⟨c, ns, i', z / many, st', n', e1, by rw [e2 c hcb]; exact hc, e3, e4, hl, hns, Int.ediv_nonneg hz (by omega), e5, e6⟩ e2 (head_keep hb e1)
    refine ite2 (fun ha => ?_) (fun ha => ?_)
    · (repeat (first | (simp only [L2.start, tSeq, tNext, tAsg, tOp, tUn, tVar, tC, gName, gSub, tRet, tRetN, tIfS, tDrop, tLM, tTru, tCall, tBM, tBM0, tRev, tChain, tComp, rd_for, rd_iList, rd_iRng1, rd_iRev, rd_iEnum, rd_pi, tSl, tNoPart, tPart, rd_I, rd_I0, rd_U, rd_test, rd_bl, tCB, tCons, tNil, tTup, tLst, tYes, tAnd, tOr, tNot, tB, tIf, tAndV, tOrV, tNotV, tTest, rd_l1, rd_l2, rd_lr, List.getElem?_cons_zero, List.getElem?_cons_succ, Option.some.injEq, exists_eq_left', List.set_cons_zero, List.set_cons_succ, maskS, List.zip_cons_cons, List.zip_nil_left, List.zip_nil_right, List.map_cons, List.map_nil, List.length_cons, List.length_nil, List.replicate, List.append_nil, List.nil_append, List.cons_append, Bool.false_eq_true, if_true, if_false, decide_eq_true_eq, Nat.zero_add, dec_eq_int, dec_eq_str]) | refine ixL_at (by walk_at "hp") rfl ?_ | refine ixT_at (by walk_at "hp") rfl ?_ | refine ixL_at (by walk_at "hp") at0 ?_ | refine setL_at (by walk_at "hp") rfl ?_ | refine len_at (by walk_at "hp") ?_ | refine gTup2_at (by walk_at "hp") ?_ | refine gTup3_at (by walk_at "hp") ?_ | refine lm_at (by walk_at "hp") ?_ | refine it_at (by walk_at "hp") ?_ | refine eq_at rfl ?_ | refine ne_at rfl ?_))
      refine ite2 (fun hi => ?_) (fun hi => ?_)
      · rw [List.length_map] at hi
        obtain ⟨j, rfl⟩ : ∃ j : Nat, i = (j : Int) := ⟨i.toNat, by omega⟩
        have hj : j < ns.length := by omega
        (repeat (first | (simp only [L2.start, tSeq, tNext, tAsg, tOp, tUn, tVar, tC, gName, gSub, tRet, tRetN, tIfS, tDrop, tLM, tTru, tCall, tBM, tBM0, tRev, tChain, tComp, rd_for, rd_iList, rd_iRng1, rd_iRev, rd_iEnum, rd_pi, tSl, tNoPart, tPart, rd_I, rd_I0, rd_U, rd_test, rd_bl, tCB, tCons, tNil, tTup, tLst, tYes, tAnd, tOr, tNot, tB, tIf, tAndV, tOrV, tNotV, tTest, rd_l1, rd_l2, rd_lr, List.getElem?_cons_zero, List.getElem?_cons_succ, Option.some.injEq, exists_eq_left', List.set_cons_zero, List.set_cons_succ, maskS, List.zip_cons_cons, List.zip_nil_left, List.zip_nil_right, List.map_cons, List.map_nil, List.length_cons, List.length_nil, List.replicate, List.append_nil, List.nil_append, List.cons_append, Bool.false_eq_true, if_true, if_false, decide_eq_true_eq, Nat.zero_add, dec_eq_int, dec_eq_str]) | refine ixL_at (by walk_at "hp") rfl ?_ | refine ixT_at (by walk_at "hp") rfl ?_ | refine ixL_at (by walk_at "hp") at0 ?_ | refine setL_at (by walk_at "hp") rfl ?_ | refine len_at (by walk_at "hp") ?_ | refine gTup2_at (by walk_at "hp") ?_ | refine gTup3_at (by walk_at "hp") ?_ | refine lm_at (by walk_at "hp") ?_ | refine it_at (by walk_at "hp") ?_ | refine eq_at rfl ?_ | refine ne_at rfl ?_))
        refine ixL_at hc (atI_nat (v := .int ns[j]) (by rw [List.getElem?_map, List.getElem?_eq_getElem hj]; rfl)) ?_
        (repeat (first | (simp only [L2.start, tSeq, tNext, tAsg, tOp, tUn, tVar, tC, gName, gSub, tRet, tRetN, tIfS, tDrop, tLM, tTru, tCall, tBM, tBM0, tRev, tChain, tComp, rd_for, rd_iList, rd_iRng1, rd_iRev, rd_iEnum, rd_pi, tSl, tNoPart, tPart, rd_I, rd_I0, rd_U, rd_test, rd_bl, tCB, tCons, tNil, tTup, tLst, tYes, tAnd, tOr, tNot, tB, tIf, tAndV, tOrV, tNotV, tTest, rd_l1, rd_l2, rd_lr, List.getElem?_cons_zero, List.getElem?_cons_succ, Option.some.injEq, exists_eq_left', List.set_cons_zero, List.set_cons_succ, maskS, List.zip_cons_cons, List.zip_nil_left, List.zip_nil_right, List.map_cons, List.map_nil, List.length_cons, List.length_nil, List.replicate, List.append_nil, List.nil_append, List.cons_append, Bool.false_eq_true, if_true, if_false, decide_eq_true_eq, Nat.zero_add, dec_eq_int, dec_eq_str]) | refine ixL_at (by walk_at "hp") rfl ?_ | refine ixT_at (by walk_at "hp") rfl ?_ | refine ixL_at (by walk_at "hp") at0 ?_ | refine setL_at (by walk_at "hp") rfl ?_ | refine len_at (by walk_at "hp") ?_ | refine gTup2_at (by walk_at "hp") ?_ | refine gTup3_at (by walk_at "hp") ?_ | refine lm_at (by walk_at "hp") ?_ | refine it_at (by walk_at "hp") ?_ | refine eq_at rfl ?_ | refine ne_at rfl ?_))
        refine ⟨m0, ?_⟩
        (repeat (first | (simp only [L2.start, tSeq, tNext, tAsg, tOp, tUn, tVar, tC, gName, gSub, tRet, tRetN, tIfS, tDrop, tLM, tTru, tCall, tBM, tBM0, tRev, tChain, tComp, rd_for, rd_iList, rd_iRng1, rd_iRev, rd_iEnum, rd_pi, tSl, tNoPart, tPart, rd_I, rd_I0, rd_U, rd_test, rd_bl, tCB, tCons, tNil, tTup, tLst, tYes, tAnd, tOr, tNot, tB, tIf, tAndV, tOrV, tNotV, tTest, rd_l1, rd_l2, rd_lr, List.getElem?_cons_zero, List.getElem?_cons_succ, Option.some.injEq, exists_eq_left', List.set_cons_zero, List.set_cons_succ, maskS, List.zip_cons_cons, List.zip_nil_left, List.zip_nil_right, List.map_cons, List.map_nil, List.length_cons, List.length_nil, List.replicate, List.append_nil, List.nil_append, List.cons_append, Bool.false_eq_true, if_true, if_false, decide_eq_true_eq, Nat.zero_add, dec_eq_int, dec_eq_str]) | refine ixL_at (by walk_at "hp") rfl ?_ | refine ixT_at (by walk_at "hp") rfl ?_ | refine ixL_at (by walk_at "hp") at0 ?_ | refine setL_at (by walk_at "hp") rfl ?_ | refine len_at (by walk_at "hp") ?_ | refine gTup2_at (by walk_at "hp") ?_ | refine gTup3_at (by walk_at "hp") ?_ | refine lm_at (by walk_at "hp") ?_ | refine it_at (by walk_at "hp") ?_ | refine eq_at rfl ?_ | refine ne_at rfl ?_))
        refine ⟨⟨m0, mb⟩, ?_⟩
        (repeat (first | (simp only [L2.start, tSeq, tNext, tAsg, tOp, tUn, tVar, tC, gName, gSub, tRet, tRetN, tIfS, tDrop, tLM, tTru, tCall, tBM, tBM0, tRev, tChain, tComp, rd_for, rd_iList, rd_iRng1, rd_iRev, rd_iEnum, rd_pi, tSl, tNoPart, tPart, rd_I, rd_I0, rd_U, rd_test, rd_bl, tCB, tCons, tNil, tTup, tLst, tYes, tAnd, tOr, tNot, tB, tIf, tAndV, tOrV, tNotV, tTest, rd_l1, rd_l2, rd_lr, List.getElem?_cons_zero, List.getElem?_cons_succ, Option.some.injEq, exists_eq_left', List.set_cons_zero, List.set_cons_succ, maskS, List.zip_cons_cons, List.zip_nil_left, List.zip_nil_right, List.map_cons, List.map_nil, List.length_cons, List.length_nil, List.replicate, List.append_nil, List.nil_append, List.cons_append, Bool.false_eq_true, if_true, if_false, decide_eq_true_eq, Nat.zero_add, dec_eq_int, dec_eq_str]) | refine ixL_at (by walk_at "hp") rfl ?_ | refine ixT_at (by walk_at "hp") rfl ?_ | refine ixL_at (by walk_at "hp") at0 ?_ | refine setL_at (by walk_at "hp") rfl ?_ | refine len_at (by walk_at "hp") ?_ | refine gTup2_at (by walk_at "hp") ?_ | refine gTup3_at (by walk_at "hp") ?_ | refine lm_at (by walk_at "hp") ?_ | refine it_at (by walk_at "hp") ?_ | refine eq_at rfl ?_ | refine ne_at rfl ?_))
        exact fin _ _ (j + 1) 0 st n (hns _ (List.getElem_mem hj)) upd_same (fun x hx => by rw [upd_ne hx, upd_ne hx, upd_ne hx]) (by omega) (by omega) s0 s1
      · (repeat (first | (simp only [L2.start, tSeq, tNext, tAsg, tOp, tUn, tVar, tC, gName, gSub, tRet, tRetN, tIfS, tDrop, tLM, tTru, tCall, tBM, tBM0, tRev, tChain, tComp, rd_for, rd_iList, rd_iRng1, rd_iRev, rd_iEnum, rd_pi, tSl, tNoPart, tPart, rd_I, rd_I0, rd_U, rd_test, rd_bl, tCB, tCons, tNil, tTup, tLst, tYes, tAnd, tOr, tNot, tB, tIf, tAndV, tOrV, tNotV, tTest, rd_l1, rd_l2, rd_lr, List.getElem?_cons_zero, List.getElem?_cons_succ, Option.some.injEq, exists_eq_left', List.set_cons_zero, List.set_cons_succ, maskS, List.zip_cons_cons, List.zip_nil_left, List.zip_nil_right, List.map_cons, List.map_nil, List.length_cons, List.length_nil, List.replicate, List.append_nil, List.nil_append, List.cons_append, Bool.false_eq_true, if_true, if_false, decide_eq_true_eq, Nat.zero_add, dec_eq_int, dec_eq_str]) | refine ixL_at (by walk_at "hp") rfl ?_ | refine ixT_at (by walk_at "hp") rfl ?_ | refine ixL_at (by walk_at "hp") at0 ?_ | refine setL_at (by walk_at "hp") rfl ?_ | refine len_at (by walk_at "hp") ?_ | refine gTup2_at (by walk_at "hp") ?_ | refine gTup3_at (by walk_at "hp") ?_ | refine lm_at (by walk_at "hp") ?_ | refine it_at (by walk_at "hp") ?_ | refine eq_at rfl ?_ | refine ne_at rfl ?_))
        rw [if_pos ha]
        (repeat (first | (simp only [L2.start, tSeq, tNext, tAsg, tOp, tUn, tVar, tC, gName, gSub, tRet, tRetN, tIfS, tDrop, tLM, tTru, tCall, tBM, tBM0, tRev, tChain, tComp, rd_for, rd_iList, rd_iRng1, rd_iRev, rd_iEnum, rd_pi, tSl, tNoPart, tPart, rd_I, rd_I0, rd_U, rd_test, rd_bl, tCB, tCons, tNil, tTup, tLst, tYes, tAnd, tOr, tNot, tB, tIf, tAndV, tOrV, tNotV, tTest, rd_l1, rd_l2, rd_lr, List.getElem?_cons_zero, List.getElem?_cons_succ, Option.some.injEq, exists_eq_left', List.set_cons_zero, List.set_cons_succ, maskS, List.zip_cons_cons, List.zip_nil_left, List.zip_nil_right, List.map_cons, List.map_nil, List.length_cons, List.length_nil, List.replicate, List.append_nil, List.nil_append, List.cons_append, Bool.false_eq_true, if_true, if_false, decide_eq_true_eq, Nat.zero_add, dec_eq_int, dec_eq_str]) | refine ixL_at (by walk_at "hp") rfl ?_ | refine ixT_at (by walk_at "hp") rfl ?_ | refine ixL_at (by walk_at "hp") at0 ?_ | refine setL_at (by walk_at "hp") rfl ?_ | refine len_at (by walk_at "hp") ?_ | refine gTup2_at (by walk_at "hp") ?_ | refine gTup3_at (by walk_at "hp") ?_ | refine lm_at (by walk_at "hp") ?_ | refine it_at (by walk_at "hp") ?_ | refine eq_at rfl ?_ | refine ne_at rfl ?_))
        refine ⟨⟨by decide, by decide, by omega⟩, ?_⟩
        (repeat (first | (simp only [L2.start, tSeq, tNext, tAsg, tOp, tUn, tVar, tC, gName, gSub, tRet, tRetN, tIfS, tDrop, tLM, tTru, tCall, tBM, tBM0, tRev, tChain, tComp, rd_for, rd_iList, rd_iRng1, rd_iRev, rd_iEnum, rd_pi, tSl, tNoPart, tPart, rd_I, rd_I0, rd_U, rd_test, rd_bl, tCB, tCons, tNil, tTup, tLst, tYes, tAnd, tOr, tNot, tB, tIf, tAndV, tOrV, tNotV, tTest, rd_l1, rd_l2, rd_lr, List.getElem?_cons_zero, List.getElem?_cons_succ, Option.some.injEq, exists_eq_left', List.set_cons_zero, List.set_cons_succ, maskS, List.zip_cons_cons, List.zip_nil_left, List.zip_nil_right, List.map_cons, List.map_nil, List.length_cons, List.length_nil, List.replicate, List.append_nil, List.nil_append, List.cons_append, Bool.false_eq_true, if_true, if_false, decide_eq_true_eq, Nat.zero_add, dec_eq_int, dec_eq_str]) | refine ixL_at (by walk_at "hp") rfl ?_ | refine ixT_at (by walk_at "hp") rfl ?_ | refine ixL_at (by walk_at "hp") at0 ?_ | refine setL_at (by walk_at "hp") rfl ?_ | refine len_at (by walk_at "hp") ?_ | refine gTup2_at (by walk_at "hp") ?_ | refine gTup3_at (by walk_at "hp") ?_ | refine lm_at (by walk_at "hp") ?_ | refine it_at (by walk_at "hp") ?_ | refine eq_at rfl ?_ | refine ne_at rfl ?_))
        refine ⟨.inl ⟨by decide, by decide⟩, ?_⟩
        (repeat (first | (simp only [L2.start, tSeq, tNext, tAsg, tOp, tUn, tVar, tC, gName, gSub, tRet, tRetN, tIfS, tDrop, tLM, tTru, tCall, tBM, tBM0, tRev, tChain, tComp, rd_for, rd_iList, rd_iRng1, rd_iRev, rd_iEnum, rd_pi, tSl, tNoPart, tPart, rd_I, rd_I0, rd_U, rd_test, rd_bl, tCB, tCons, tNil, tTup, tLst, tYes, tAnd, tOr, tNot, tB, tIf, tAndV, tOrV, tNotV, tTest, rd_l1, rd_l2, rd_lr, List.getElem?_cons_zero, List.getElem?_cons_succ, Option.some.injEq, exists_eq_left', List.set_cons_zero, List.set_cons_succ, maskS, List.zip_cons_cons, List.zip_nil_left, List.zip_nil_right, List.map_cons, List.map_nil, List.length_cons, List.length_nil, List.replicate, List.append_nil, List.nil_append, List.cons_append, Bool.false_eq_true, if_true, if_false, decide_eq_true_eq, Nat.zero_add, dec_eq_int, dec_eq_str]) | refine ixL_at (by walk_at "hp") rfl ?_ | refine ixT_at (by walk_at "hp") rfl ?_ | refine ixL_at (by walk_at "hp") at0 ?_ | refine setL_at (by walk_at "hp") rfl ?_ | refine len_at (by walk_at "hp") ?_ | refine gTup2_at (by walk_at "hp") ?_ | refine gTup3_at (by walk_at "hp") ?_ | refine lm_at (by walk_at "hp") ?_ | refine it_at (by walk_at "hp") ?_ | refine eq_at rfl ?_ | refine ne_at rfl ?_))
        refine ⟨.inl ⟨by decide, by decide⟩, by decide, ?_⟩
        (repeat (first | (simp only [L2.start, tSeq, tNext, tAsg, tOp, tUn, tVar, tC, gName, gSub, tRet, tRetN, tIfS, tDrop, tLM, tTru, tCall, tBM, tBM0, tRev, tChain, tComp, rd_for, rd_iList, rd_iRng1, rd_iRev, rd_iEnum, rd_pi, tSl, tNoPart, tPart, rd_I, rd_I0, rd_U, rd_test, rd_bl, tCB, tCons, tNil, tTup, tLst, tYes, tAnd, tOr, tNot, tB, tIf, tAndV, tOrV, tNotV, tTest, rd_l1, rd_l2, rd_lr, List.getElem?_cons_zero, List.getElem?_cons_succ, Option.some.injEq, exists_eq_left', List.set_cons_zero, List.set_cons_succ, maskS, List.zip_cons_cons, List.zip_nil_left, List.zip_nil_right, List.map_cons, List.map_nil, List.length_cons, List.length_nil, List.replicate, List.append_nil, List.nil_append, List.cons_append, Bool.false_eq_true, if_true, if_false, decide_eq_true_eq, Nat.zero_add, dec_eq_int, dec_eq_str]) | refine ixL_at (by walk_at "hp") rfl ?_ | refine ixT_at (by walk_at "hp") rfl ?_ | refine ixL_at (by walk_at "hp") at0 ?_ | refine setL_at (by walk_at "hp") rfl ?_ | refine len_at (by walk_at "hp") ?_ | refine gTup2_at (by walk_at "hp") ?_ | refine gTup3_at (by walk_at "hp") ?_ | refine lm_at (by walk_at "hp") ?_ | refine it_at (by walk_at "hp") ?_ | refine eq_at rfl ?_ | refine ne_at rfl ?_))
        refine ⟨⟨by decide, by decide⟩, m0, ?_⟩
        refine k _ _ (Int.emod_nonneg _ (by omega)) (Int.emod_lt_of_pos _ m0) ⟨c, ns, i, a, _, n + 1, upd_same, ?_, i0, i1, hl, hns, a0, Int.emod_nonneg _ (by decide), Int.emod_lt_of_pos _ (by decide)⟩ (fun x hx => by rw [upd_ne hx, upd_ne hx]) (head_keep hb upd_same)
        walk_at "hp"
    · (repeat (first | (simp only [L2.start, tSeq, tNext, tAsg, tOp, tUn, tVar, tC, gName, gSub, tRet, tRetN, tIfS, tDrop, tLM, tTru, tCall, tBM, tBM0, tRev, tChain, tComp, rd_for, rd_iList, rd_iRng1, rd_iRev, rd_iEnum, rd_pi, tSl, tNoPart, tPart, rd_I, rd_I0, rd_U, rd_test, rd_bl, tCB, tCons, tNil, tTup, tLst, tYes, tAnd, tOr, tNot, tB, tIf, tAndV, tOrV, tNotV, tTest, rd_l1, rd_l2, rd_lr, List.getElem?_cons_zero, List.getElem?_cons_succ, Option.some.injEq, exists_eq_left', List.set_cons_zero, List.set_cons_succ, maskS, List.zip_cons_cons, List.zip_nil_left, List.zip_nil_right, List.map_cons, List.map_nil, List.length_cons, List.length_nil, List.replicate, List.append_nil, List.nil_append, List.cons_append, Bool.false_eq_true, if_true, if_false, decide_eq_true_eq, Nat.zero_add, dec_eq_int, dec_eq_str]) | refine ixL_at (by walk_at "hp") rfl ?_ | refine ixT_at (by walk_at "hp") rfl ?_ | refine ixL_at (by walk_at "hp") at0 ?_ | refine setL_at (by walk_at "hp") rfl ?_ | refine len_at (by walk_at "hp") ?_ | refine gTup2_at (by walk_at "hp") ?_ | refine gTup3_at (by walk_at "hp") ?_ | refine lm_at (by walk_at "hp") ?_ | refine it_at (by walk_at "hp") ?_ | refine eq_at rfl ?_ | refine ne_at rfl ?_))
      rw [if_neg ha]
      (repeat (first | (simp only [L2.start, tSeq, tNext, tAsg, tOp, tUn, tVar, tC, gName, gSub, tRet, tRetN, tIfS, tDrop, tLM, tTru, tCall, tBM, tBM0, tRev, tChain, tComp, rd_for, rd_iList, rd_iRng1, rd_iRev, rd_iEnum, rd_pi, tSl, tNoPart, tPart, rd_I, rd_I0, rd_U, rd_test, rd_bl, tCB, tCons, tNil, tTup, tLst, tYes, tAnd, tOr, tNot, tB, tIf, tAndV, tOrV, tNotV, tTest, rd_l1, rd_l2, rd_lr, List.getElem?_cons_zero, List.getElem?_cons_succ, Option.some.injEq, exists_eq_left', List.set_cons_zero, List.set_cons_succ, maskS, List.zip_cons_cons, List.zip_nil_left, List.zip_nil_right, List.map_cons, List.map_nil, List.length_cons, List.length_nil, List.replicate, List.append_nil, List.nil_append, List.cons_append, Bool.false_eq_true, if_true, if_false, decide_eq_true_eq, Nat.zero_add, dec_eq_int, dec_eq_str]) | refine ixL_at (by walk_at "hp") rfl ?_ | refine ixT_at (by walk_at "hp") rfl ?_ | refine ixL_at (by walk_at "hp") at0 ?_ | refine setL_at (by walk_at "hp") rfl ?_ | refine len_at (by walk_at "hp") ?_ | refine gTup2_at (by walk_at "hp") ?_ | refine gTup3_at (by walk_at "hp") ?_ | refine lm_at (by walk_at "hp") ?_ | refine it_at (by walk_at "hp") ?_ | refine eq_at rfl ?_ | refine ne_at rfl ?_))
      refine ⟨m0, ?_⟩
      (repeat (first | (simp only [L2.start, tSeq, tNext, tAsg, tOp, tUn, tVar, tC, gName, gSub, tRet, tRetN, tIfS, tDrop, tLM, tTru, tCall, tBM, tBM0, tRev, tChain, tComp, rd_for, rd_iList, rd_iRng1, rd_iRev, rd_iEnum, rd_pi, tSl, tNoPart, tPart, rd_I, rd_I0, rd_U, rd_test, rd_bl, tCB, tCons, tNil, tTup, tLst, tYes, tAnd, tOr, tNot, tB, tIf, tAndV, tOrV, tNotV, tTest, rd_l1, rd_l2, rd_lr, List.getElem?_cons_zero, List.getElem?_cons_succ, Option.some.injEq, exists_eq_left', List.set_cons_zero, List.set_cons_succ, maskS, List.zip_cons_cons, List.zip_nil_left, List.zip_nil_right, List.map_cons, List.map_nil, List.length_cons, List.length_nil, List.replicate, List.append_nil, List.nil_append, List.cons_append, Bool.false_eq_true, if_true, if_false, decide_eq_true_eq, Nat.zero_add, dec_eq_int, dec_eq_str]) | refine ixL_at (by walk_at "hp") rfl ?_ | refine ixT_at (by walk_at "hp") rfl ?_ | refine ixL_at (by walk_at "hp") at0 ?_ | refine setL_at (by walk_at "hp") rfl ?_ | refine len_at (by walk_at "hp") ?_ | refine gTup2_at (by walk_at "hp") ?_ | refine gTup3_at (by walk_at "hp") ?_ | refine lm_at (by walk_at "hp") ?_ | refine it_at (by walk_at "hp") ?_ | refine eq_at rfl ?_ | refine ne_at rfl ?_))
      refine ⟨⟨m0, mb⟩, ?_⟩
      (repeat (first | (simp only [L2.start, tSeq, tNext, tAsg, tOp, tUn, tVar, tC, gName, gSub, tRet, tRetN, tIfS, tDrop, tLM, tTru, tCall, tBM, tBM0, tRev, tChain, tComp, rd_for, rd_iList, rd_iRng1, rd_iRev, rd_iEnum, rd_pi, tSl, tNoPart, tPart, rd_I, rd_I0, rd_U, rd_test, rd_bl, tCB, tCons, tNil, tTup, tLst, tYes, tAnd, tOr, tNot, tB, tIf, tAndV, tOrV, tNotV, tTest, rd_l1, rd_l2, rd_lr, List.getElem?_cons_zero, List.getElem?_cons_succ, Option.some.injEq, exists_eq_left', List.set_cons_zero, List.set_cons_succ, maskS, List.zip_cons_cons, List.zip_nil_left, List.zip_nil_right, List.map_cons, List.map_nil, List.length_cons, List.length_nil, List.replicate, List.append_nil, List.nil_append, List.cons_append, Bool.false_eq_true, if_true, if_false, decide_eq_true_eq, Nat.zero_add, dec_eq_int, dec_eq_str]) | refine ixL_at (by walk_at "hp") rfl ?_ | refine ixT_at (by walk_at "hp") rfl ?_ | refine ixL_at (by walk_at "hp") at0 ?_ | refine setL_at (by walk_at "hp") rfl ?_ | refine len_at (by walk_at "hp") ?_ | refine gTup2_at (by walk_at "hp") ?_ | refine gTup3_at (by walk_at "hp") ?_ | refine lm_at (by walk_at "hp") ?_ | refine it_at (by walk_at "hp") ?_ | refine eq_at rfl ?_ | refine ne_at rfl ?_))
      exact fin _ _ i 0 st n a0 upd_same (fun x hx => by rw [upd_ne hx]) i0 i1 s0 s1

/-! ### the bag among the things that change -/
def MB (M : MM) (k : Nat) (o : MO) (L : List MO) : MM := M.set k o ++ L
theorem MB_len {M : MM} {k : Nat} {o : MO} {L : List MO} : (MB M k o L).length = M.length + L.length := by unfold MB; rw [List.length_append, List.length_set]
theorem MB_new {M : MM} {k : Nat} {o x : MO} {L : List MO} : MB M k o L ++ [x] = MB M k o (L ++ [x]) := by unfold MB; rw [List.append_assoc]
theorem MB_get {M : MM} {k i : Nat} {o : MO} {L : List MO} : (MB M k o L)[M.length + i]? = L[i]? := by
  unfold MB
  rw [List.getElem?_append_right (by rw [List.length_set]; omega), List.length_set, Nat.add_sub_cancel_left]
theorem MB_get0 {M : MM} {k i : Nat} {o x : MO} {L : List MO} (h : L[i]? = some x := by rfl) : (MB M k o L)[M.length + i]? = some x := MB_get.trans h
theorem MB_set {M : MM} {k i : Nat} {o x : MO} {L : List MO} : (MB M k o L).set (M.length + i) x = MB M k o (L.set i x) := by
  unfold MB
  rw [List.set_append_right _ _ (by rw [List.length_set]; omega), List.length_set, Nat.add_sub_cancel_left]
theorem MB_bag {M : MM} {k : Nat} {o : MO} {L : List MO} (h : k < M.length) : (MB M k o L)[k]? = some o := by
  unfold MB
  rw [List.getElem?_append_left (by rw [List.length_set]; exact h), List.getElem?_set_self h]
theorem MB_setbag {M : MM} {k : Nat} {o o' : MO} {L : List MO} (h : k < M.length) : (MB M k o L).set k o' = MB M k o' L := by
  unfold MB
  rw [List.set_append_left _ _ (by rw [List.length_set]; exact h), List.set_set]
theorem MB_take {M : MM} {k : Nat} {o : MO} {L : List MO} : (MB M k o L).take M.length = M.set k o := by
  unfold MB
  rw [List.take_left' (by rw [List.length_set])]
theorem MB_start {M : MM} {k : Nat} {o : MO} (h : M[k]? = some o) : k < M.length ∧ M = MB M k o [] := by
  refine ⟨(List.getElem?_eq_some_iff.mp h).1, ?_⟩
  unfold MB
  rw [List.append_nil]
  obtain ⟨hk, rfl⟩ := List.getElem?_eq_some_iff.mp h
  rw [List.set_getElem_self]
theorem MB_trim {M : MM} {k : Nat} {o : MO} {L : List MO} (h : PurO o) : TrimOk M (MB M k o L) := fun i x hi e => by
  unfold MB at e
  rw [List.getElem?_append_left (by rw [List.length_set]; exact hi)] at e
  by_cases hk : k = i
  · subst hk
    rw [List.getElem?_set_self hi] at e
    cases e
    exact .inr h
  · rw [List.getElem?_set_ne hk] at e
    exact .inl e
structure BagO (o : MO) : Prop where
  ex : ∃ (ns : List Int) (i a st n : Int), o = .lst [.p (intsT ns), .p (.int i), .p (.int a), .p (.int st), .p (.int n)] ∧ 0 ≤ i ∧ i ≤ ns.length ∧ ns.length ≤ 63 ∧ (∀ x ∈ ns, 0 ≤ x) ∧ 0 ≤ a ∧ 0 ≤ st ∧ st < 2147483647
theorem BagO.pur {o : MO} (h : BagO o) : PurO o := by
  obtain ⟨ns, i, a, st, n, rfl, _⟩ := h.ex
  exact ⟨[intsT ns, .int i, .int a, .int st, .int n], rfl⟩
def gDraw : List U → MM → UK → Prop := fun us M Q => ∃ (k : Nat) (o : MO) (many : Int), us = [.m k, .p (.int many)] ∧ M[k]? = some o ∧ BagO o ∧ 0 < many ∧ many.natAbs.log2 < 9000 ∧ ∀ (found : Int) (o' : MO), 0 ≤ found → found < many → BagO o' → Q (.p (.int found)) (M.set k o')
theorem draw_at {M : MM} {k : Nat} {o : MO} {L : List MO} {many : Int} {Q : UK} (hk : k < M.length) (B : BagO o) (h0 : 0 < many) (h1 : many.natAbs.log2 < 9000) (q : ∀ (found : Int) (o' : MO), 0 ≤ found → found < many → BagO o' → Q (.p (.int found)) (MB M k o' L)) : gDraw [.m k, .p (.int many)] (MB M k o L) Q :=
  ⟨k, o, many, rfl, MB_bag hk, B, h0, h1, fun f o' f0 f1 B' => by rw [MB_setbag hk]; exact q f o' f0 f1 B'⟩
theorem ints_inv {A : Addr → Prop} {H : Hp} {v : V} {ns : List Int} (r : RepT A H v (intsT ns)) : ∃ p, v = .ref p ∧ ¬ A p ∧ H p = some (.lst (ns.map V.int)) := by
  obtain ⟨p, vs, rfl, na, h, q⟩ := r.lst_inv
  refine ⟨p, rfl, na, ?_⟩
  have : vs = ns.map V.int := by
    clear h r na
    induction ns generalizing vs with
    | nil => cases q; rfl
    | cons n ns ih =>
      cases q with
      | cons a b => cases a; rw [ih _ b]; rfl
  rw [h, this]
theorem ints_rep {A : Addr → Prop} {H : Hp} {p : Addr} {ns : List Int} (na : ¬ A p) (h : H p = some (.lst (ns.map V.int))) : RepT A H (.ref p) (intsT ns) := by
  refine .lstP na h ?_
  induction ns with
  | nil => exact .nil
  | cons n ns ih => exact .cons (.int n) (by
      clear h ih
      induction ns with
      | nil => exact .nil
      | cons n ns ih => exact .cons (.int n) ih)
theorem bag_obj {A : Addr → Prop} {ι : List Addr} {H : Hp} {b : Addr} {o : MO} (hb : BagO o) (r : ObjR A ι H b o) : BagAt H b ∧ ∃ c, headOf H b c ∧ ¬ Av A ι c ∧ ∃ ns : List Int, H c = some (.lst (ns.map V.int)) := by
  obtain ⟨ns, i, a, st, n, rfl, k⟩ := hb.ex
  obtain ⟨vs, h, q⟩ := r
  cases q with
  | cons q1 q =>
  cases q with
  | cons q2 q =>
  cases q with
  | cons q3 q =>
  cases q with
  | cons q4 q =>
  cases q with
  | cons q5 q =>
  cases q
  cases q1 with
  | p q1 =>
  obtain ⟨c, rfl, nc, hc⟩ := ints_inv q1
  cases q2 with
  | p q2 =>
  cases q3 with
  | p q3 =>
  cases q4 with
  | p q4 =>
  cases q5 with
  | p q5 =>
  cases q2; cases q3; cases q4; cases q5
  exact ⟨⟨c, ns, i, a, st, n, h, hc, k⟩, c, ⟨_, h⟩, nc, ns, hc⟩
theorem bag_back {A : Addr → Prop} {ι : List Addr} {H : Hp} {b c : Addr} (B : BagAt H b) (hd : headOf H b c) (nc : ¬ Av A ι c) : ∃ o, BagO o ∧ ObjR A ι H b o ∧ ∃ x, H b = some x ∧ ∀ H', H' b = some x → (∀ y z, H y = some z → y ≠ b → H' y = some z) → ObjR A ι H' b o := by
  obtain ⟨c', ns, i, a, st, n, h, hc, k⟩ := B.ex
  have : c = c' := head_inj hd ⟨_, h⟩
  subst this
  have ncb : c ≠ b := bag_ne h hc
  refine ⟨_, ⟨ns, i, a, st, n, rfl, k⟩, ⟨_, h, .cons (.p (ints_rep nc hc)) (.cons (.p (.int _)) (.cons (.p (.int _)) (.cons (.p (.int _)) (.cons (.p (.int _)) .nil))))⟩, _, h, fun H' e f => ⟨_, e, .cons (.p (ints_rep nc (f _ _ hc ncb))) (.cons (.p (.int _)) (.cons (.p (.int _)) (.cons (.p (.int _)) (.cons (.p (.int _)) .nil))))⟩⟩
theorem ok_drawU {f : Addr} {fd : FuncData} (F : Fun K "_law_draw" "_law_draw" sDraw f fd) (N : Nms mg) : FnOk P w K mg base CX0 1 f fd ["bag", "many"] (spU gDraw) := by
  refine (ok_draw2 F N).imp fun vs H Q E h => ?_
  obtain ⟨A, ι, M, us, Qu, w1, r, ⟨k, o, many, rfl, em, hb, h0, h1, q⟩, kk⟩ := h
  cases r with
  | cons r1 r =>
  cases r with
  | cons r2 r =>
  cases r
  cases r2 with
  | p r2 =>
  cases r2
  cases r1 with
  | m ek =>
  rename_i b
  have ro := w1.obj k b o ek em
  obtain ⟨B, c, hd, nc, ns, hcs⟩ := bag_obj hb ro
  refine ⟨b, many, rfl, B, h0, h1, fun found H' f0 f1 B' fr hdk => ?_⟩
  have hd' := hdk c hd
  have hmem := List.mem_of_getElem? ek
  obtain ⟨o', hb', ro', x, hx, _⟩ := bag_back (A := A) (ι := ι) B' hd' nc
  have eH : H' = L2.upd H b x := by
    funext y
    by_cases z : y = b
    · subst z; rw [L2.upd_same]; exact hx
    · rw [L2.upd_ne z]; exact fr y z
  subst eH
  exact kk _ _ ι _ _ (.put hmem) (w1.put ek ro') (.p (.int _)) (q found o' f0 f1 hb')
theorem up1 {a : T} {R : T → Prop} : (∃ t, U.p a = .p t ∧ R t) = R a := propext ⟨fun ⟨_, e, h⟩ => by cases e; exact h, fun h => ⟨a, rfl, h⟩⟩
theorem t2_at {M : MM} {u a b : U} {R : U → U → Prop} (h : itemsT M u = some [a, b]) (q : R a b) : T2S M u R := ⟨a, b, h, q⟩
theorem t3_at {M : MM} {u a b c : U} {R : U → U → U → Prop} (h : itemsT M u = some [a, b, c]) (q : R a b c) : T3S M u R := ⟨a, b, c, h, q⟩
theorem useq {a b : US} {E : UEnds} {ρ : UEnv} {M : MM} (h : a { E with nx := b E } ρ M) : uSeq a b E ρ M := h

local macro_rules | `(tactic| walk_at "vs") => `(tactic| simp only [startU, uNext, uAsg, uName, rd_name2, rd_name3, rd_var, rd_varS, uC, uCons, uNil, rd_op, rd_opS, rd_sI, rd_sI0, rd_eqI, rd_neI, rd_eqS, rd_neS, rd_eqB, rd_neB, uIsN, isNon, rd_intS, rd_blS, rd_neg, rd_bits, rd_b, rd_andV, rd_orV, rd_notV, uAnd, uOr, uNot, uIf, rd_chain, rd_chP, rd_ch, rd_pur0, rd_purC, rd_purS, rd_tup, rd_lst, uNew, uNewT, rd_ix, rd_sns0, rd_snsC, rd_cb, rd_abs', rd_min', rd_max', rd_int', rd_intB, rd_len, rd_lenP, rd_sl, rd_slS, rd_part, rd_noPart, rd_cat, rd_str, rd_iter, rd_iterP, rd_rng1, uFor, uComp, maskU, rd_t2, rd_t3, rd_callP, rd_callS, rd_callU, rd_me, rd_app, uDrop, uRet, uRetN, uIfS, uYes, ss, uIsi, uIsi2, isU, isT, uIxK, uInK, vt, uDNew, rd_din, rd_dput, rd_idxK, rd_lrng2, rd_sub, rd_par, rd_par3, rd_p2, rd_p3, rd_name4, rd_t4, rd_fld, rd_fldPut, rd_meth, rd_make, rd_repNew, Bool.or_true, Bool.true_or, Bool.or_false, Bool.false_or, uIfC, iteT_int, iteT_str, rd_rev, rd_revP, up1, frzB_p, frzN_p, MO.lst.injEq, rd_dget, uPairs, MB_new, MB_len, MB_get, MB_set, Option.some.injEq, List.map_cons, List.map_nil, List.length_cons, List.length_nil, List.replicate, List.append_nil, List.nil_append, List.cons_append, List.getElem?_cons_zero, List.getElem?_cons_succ, List.set_cons_zero, List.set_cons_succ, List.zip_cons_cons, List.zip_nil_left, List.zip_nil_right, Bool.false_eq_true, if_true, if_false, decide_eq_true_eq, decide_true, decide_false, Bool.not_true, Bool.not_false, true_and, and_true, Nat.reduceAdd, Nat.reduceSub, Nat.zero_add, exists_eq_left'])
local macro_rules | `(tactic| walk_at "v") => `(tactic| repeat (first | with_reducible refine useq ?_ | walk_at "vs" | ((with_reducible refine gdIx ?_); first | refine ixl_at rfl ?_ | refine ixl_at at0 ?_ | refine ixl_at at1 ?_ | refine ixt_at rfl ?_) | ((with_reducible refine gdT2 ?_); refine t2_at rfl ?_) | ((with_reducible refine gdT3 ?_); refine t3_at rfl ?_) | ((with_reducible refine gdMe ?_); first | refine me_at rfl ?_ | refine me_at MB_get0 ?_) | ((with_reducible refine gdLen ?_); first | refine len_at' rfl ?_ | refine len_at' MB_get0 ?_)))
abbrev Mk3 := Str × Int × Int
def on (word : Int) (m : Mk3) : Bool := decide (word % 2 ^ m.2.1.toNat = m.2.2)
def Wd (ms : List Mk3) : Prop := ∀ m ∈ ms, 0 ≤ m.2.1 ∧ m.2.1 ≤ 1000
theorem two_pos (k : Nat) : (0 : Int) < 2 ^ k := Int.pow_pos (by decide)
theorem take_succ_get {α : Type} {l : List α} {i : Nat} {x : α} (h : l[i]? = some x) : l.take (i + 1) = l.take i ++ [x] := by
  obtain ⟨hi, e⟩ := List.getElem?_eq_some_iff.mp h
  rw [List.take_succ_eq_append_getElem hi, e]
def OfKind (ms : List Mk3) (kind : Str) (m : Mk3) : Prop := ∃ rest, ms.filter (fun m => decide (m.1 = kind)) = m :: rest
def fiveK : List Str := ["small", "far", "pair", "sign", "one"]
abbrev Nd := Int × Int
def Disj (a b : Nd) : Prop := ∀ x : Int, ¬ (x % 2 ^ a.1.toNat = a.2 ∧ x % 2 ^ b.1.toNat = b.2)
theorem Disj.symm {a b : Nd} (h : Disj a b) : Disj b a := fun x ⟨p, q⟩ => h x ⟨q, p⟩
def NdOk (a : Nd) : Prop := 0 ≤ a.1 ∧ a.1 ≤ 60 ∧ 0 ≤ a.2 ∧ a.2 < 2 ^ a.1.toNat
theorem mod_pow_le {x : Int} {a b : Nat} (h : a ≤ b) : x % 2 ^ b % 2 ^ a = x % 2 ^ a := by
  refine Int.emod_emod_of_dvd x ?_
  obtain ⟨c, rfl⟩ := Nat.exists_eq_add_of_le h
  exact ⟨2 ^ c, Int.pow_add ..⟩
def child (a : Nd) (s : Int) : Nd := (a.1 + 1, a.2 + s * 2 ^ a.1.toNat)
theorem child_sub {a : Nd} {s x : Int} (ha : NdOk a) (h : x % 2 ^ (child a s).1.toNat = (child a s).2) : x % 2 ^ a.1.toNat = a.2 := by
  have e : (child a s).1.toNat = a.1.toNat + 1 := by show (a.1 + 1).toNat = _; have := ha.1; omega
  rw [e] at h
  rw [← mod_pow_le (Nat.le_succ a.1.toNat), h]
  show (a.2 + s * 2 ^ a.1.toNat) % 2 ^ a.1.toNat = a.2
  rw [Int.mul_comm, Int.add_mul_emod_self_left]
  exact Int.emod_eq_of_lt ha.2.2.1 ha.2.2.2
theorem child_disj {a b : Nd} {s : Int} (ha : NdOk a) (h : Disj a b) : Disj (child a s) b := fun x ⟨p, q⟩ => h x ⟨child_sub ha p, q⟩
theorem child_two {a : Nd} {s t : Int} (hs : s ≠ t) : Disj (child a s) (child a t) := fun x ⟨p, q⟩ => by
  rw [show (child a t).1 = (child a s).1 from rfl, p] at q
  have : (a.2 + s * 2 ^ a.1.toNat) = a.2 + t * 2 ^ a.1.toNat := q
  have h2 : s * 2 ^ a.1.toNat = t * 2 ^ a.1.toNat := by omega
  exact hs (Int.eq_of_mul_eq_mul_right (Int.ne_of_gt (two_pos _)) h2)
theorem child_ok {a : Nd} {s : Int} (ha : NdOk a) (h59 : a.1 ≤ 59) (hs : s = 0 ∨ s = 1) : NdOk (child a s) := by
  obtain ⟨h1, h2, h3, h4⟩ := ha
  have e : (a.1 + 1).toNat = a.1.toNat + 1 := by omega
  refine ⟨by show 0 ≤ a.1 + 1; omega, by show a.1 + 1 ≤ 60; omega, ?_, ?_⟩
  · show 0 ≤ a.2 + s * 2 ^ a.1.toNat
    have := two_pos a.1.toNat
    rcases hs with rfl | rfl <;> omega
  · show a.2 + s * 2 ^ a.1.toNat < 2 ^ (a.1 + 1).toNat
    rw [e, Int.pow_succ]
    rcases hs with rfl | rfl <;> omega
def need (kind : Str) : Int := if kind = "sign" then 7 else if kind = "small" then 2 else if kind = "one" then 2 else 3
structure Right (bits : Int) (ms : List Mk3) : Prop where
  b : 8 ≤ bits ∧ bits ≤ 32
  n : ms.length = 5
  k : (ms.map (·.1)).Perm fiveK
  w : ∀ m ∈ ms, 1 ≤ m.2.1 ∧ m.2.1 ≤ bits - need m.1
  p : ∀ m ∈ ms, 0 ≤ m.2.2 ∧ m.2.2 < 2 ^ m.2.1.toNat
  d : ms.Pairwise fun m m' => Disj m.2 m'.2
theorem need_ge (k : Str) : 2 ≤ need k := by unfold need; split <;> (try split) <;> (try split) <;> decide
theorem Right.wd {bits : Int} {ms : List Mk3} (r : Right bits ms) : Wd ms := fun m hm => by
  have := r.w m hm
  have h2 := need_ge m.1
  have := r.b
  omega
theorem Right.kind {bits : Int} {ms : List Mk3} (r : Right bits ms) {kind : Str} (h : kind ∈ fiveK) : ∃ m, OfKind ms kind m := by
  have : kind ∈ ms.map (·.1) := r.k.mem_iff.mpr h
  obtain ⟨m, hm, e⟩ := List.mem_map.mp this
  cases q : ms.filter (fun m => decide (m.1 = kind)) with
  | nil =>
    have : m ∈ ms.filter (fun m => decide (m.1 = kind)) := List.mem_filter.mpr ⟨hm, by simp [e]⟩
    rw [q] at this; cases this
  | cons m0 rest => exact ⟨m0, rest, q⟩
theorem log2_lt {n : Int} (h0 : 0 < n) (h1 : n < 2 ^ 62) : n.natAbs.log2 < 9000 := by
  have : n.natAbs.log2 < 62 := (Nat.log2_lt (by omega)).mpr (by omega)
  omega
structure LInv (bits : Int) (KS : List Str) (i : Nat) (ns : List Nd) (ms : List Mk3) : Prop where
  ok : ∀ n ∈ ns, NdOk n
  low : ∃ n ∈ ns, n.1 ≤ i
  len : ns.length ≤ 1 + 31 * i
  kinds : ms.map (·.1) = KS.take i
  w : ∀ m ∈ ms, 1 ≤ m.2.1 ∧ m.2.1 ≤ bits - need m.1
  p : ∀ m ∈ ms, NdOk m.2
  d : (ns ++ ms.map (·.2)).Pairwise Disj
structure WInv (i : Nat) (w0 : Int) (c : Nd) (ns : List Nd) (ms : List Mk3) : Prop where
  cok : NdOk c
  w : w0 ≤ c.1
  ok : ∀ n ∈ ns, NdOk n
  low : (∃ n ∈ ns, n.1 ≤ i + 1) ∨ (c.1 = w0 ∧ w0 ≤ i)
  len : (ns.length : Int) ≤ 31 * i + c.1
  d : (c :: (ns ++ ms.map (·.2))).Pairwise Disj
theorem WInv.step {i : Nat} {w0 : Int} {c : Nd} {ns : List Nd} {ms : List Mk3} {s : Int} (h : WInv i w0 c ns ms) (hs : s = 0 ∨ s = 1) (h59 : c.1 ≤ 59) : WInv i w0 (child c s) (ns ++ [child c (1 - s)]) ms := by
  have hs' : 1 - s = 0 ∨ 1 - s = 1 := by omega
  obtain ⟨dc, dr⟩ := List.pairwise_cons.mp h.d
  have cw : (child c s).1 = c.1 + 1 := rfl
  refine ⟨child_ok h.cok h59 hs, by rw [cw]; have := h.w; omega, fun n hn => ?_, ?_, ?_, ?_⟩
  · rcases List.mem_append.mp hn with z | z
    · exact h.ok n z
    · rw [List.mem_singleton.mp z]; exact child_ok h.cok h59 hs'
  · rcases h.low with ⟨n, hn, hw⟩ | ⟨e, hw⟩
    · exact .inl ⟨n, List.mem_append_left _ hn, hw⟩
    · exact .inl ⟨child c (1 - s), List.mem_append_right _ (List.mem_singleton.mpr rfl), by show c.1 + 1 ≤ _; omega⟩
  · have := h.len
    rw [cw, List.length_append, List.length_singleton]
    push_cast; omega
  · have p1 : (child c s :: (ns ++ [child c (1 - s)] ++ ms.map (·.2))).Perm (child c s :: child c (1 - s) :: (ns ++ ms.map (·.2))) := by
      refine List.Perm.cons _ ?_
      rw [List.append_assoc]
      exact List.perm_middle
    refine (p1.pairwise_iff fun h => h.symm).mpr ?_
    refine List.pairwise_cons.mpr ⟨fun n hn => ?_, List.pairwise_cons.mpr ⟨fun n hn => child_disj h.cok (dc n hn), dr⟩⟩
    rcases List.mem_cons.mp hn with rfl | z
    · exact child_two (by omega)
    · exact child_disj h.cok (dc n z)
theorem WInv.fin {bits w0 goal : Int} {KS : List Str} {kind : Str} {i : Nat} {c : Nd} {ns ns0 : List Nd} {ms : List Mk3} (h : WInv i w0 c ns ms) (h0 : LInv bits KS i ns0 ms) (hk : KS[i]? = some kind) (hg : c.1 = goal) (hw : w0 < goal) (h1 : 1 ≤ goal) (h2 : goal ≤ bits - need kind) (h31 : goal ≤ 31) :
    LInv bits KS (i + 1) ns (ms ++ [(kind, c)]) := by
  have hl := h.len
  refine ⟨h.ok, ?_, ?_, ?_, fun m hm => ?_, fun m hm => ?_, ?_⟩
  · rcases h.low with ⟨n, hn, hw'⟩ | ⟨e, _⟩
    · exact ⟨n, hn, by push_cast; exact hw'⟩
    · omega
  · omega
  · rw [List.map_append, h0.kinds, take_succ_get hk]; rfl
  · rcases List.mem_append.mp hm with z | z
    · exact h0.w m z
    · rw [List.mem_singleton.mp z]; exact ⟨by show 1 ≤ c.1; omega, by show c.1 ≤ bits - need kind; omega⟩
  · rcases List.mem_append.mp hm with z | z
    · exact h0.p m z
    · rw [List.mem_singleton.mp z]; exact h.cok
  · rw [List.map_append, ← List.append_assoc]
    have p1 : (ns ++ ms.map (·.2) ++ [c]).Perm (c :: (ns ++ ms.map (·.2))) := List.perm_append_comm
    exact (p1.pairwise_iff fun h => h.symm).mpr h.d
theorem OfKind.is {ms : List Mk3} {kind : Str} {m : Mk3} (h : OfKind ms kind m) : m.1 = kind := by
  obtain ⟨rest, e⟩ := h
  have : m ∈ ms.filter (fun m => decide (m.1 = kind)) := by rw [e]; exact List.mem_cons_self
  exact of_decide_eq_true (List.mem_filter.mp this).2


abbrev sAlike : Stmt := top 20
theorem scAlike : FnScope ["found", "due"] ["found", "due"] (defScope sAlike) := ⟨rfl, rfl, rfl, by decide +kernel, rfl, by decide +kernel, by decide +kernel⟩
theorem ndAlike1 : (["found", "due", "k"] : List Str).Nodup := by decide +kernel
def flatA : V → Bool
  | .non => true
  | .bl _ => true
  | .int _ => true
  | .str _ => true
  | _ => false
/-- data that are alike, to a depth -/
def AL (H : Hp) : Nat → V → V → Prop
  | 0, _, _ => False
  | n + 1, x, y => (x = y ∧ flatA x = true) ∨ ∃ (p q : Addr) (xs ys : List V), x = .ref p ∧ y = .ref q ∧ ((H p = some (.lst xs) ∧ H q = some (.lst ys)) ∨ (H p = some (.tup xs) ∧ H q = some (.tup ys))) ∧ xs.length = ys.length ∧ xs.length ≤ 100000 ∧ ∀ (j : Nat) (x y : V), xs[j]? = some x → ys[j]? = some y → AL H n x y
theorem AL.same {H H' : Hp} (s : Same H H') : ∀ {n : Nat} {x y : V}, AL H n x y → AL H' n x y
  | 0, _, _, h => h
  | n + 1, _, _, h => by
    rcases h with h | ⟨p, q, xs, ys, e1, e2, h, l1, l2, k⟩
    · exact .inl h
    · refine .inr ⟨p, q, xs, ys, e1, e2, ?_, l1, l2, fun j x y a b => (k j x y a b).same s⟩
      rcases h with ⟨h1, h2⟩ | ⟨h1, h2⟩
      · exact .inl ⟨s _ _ h1, s _ _ h2⟩
      · exact .inr ⟨s _ _ h1, s _ _ h2⟩
def spAlike (n : Nat) : Sp := fun vs H Q _ => ∃ x y : V, vs = [x, y] ∧ AL H n x y ∧ ∀ H', Same H H' → Q (.bl true) H'
theorem ty_flat {K : PySem.W.Frag} {H : Hp} {v : V} (h : flatA v = true) : ∃ t, TyOf K H v (.type t) ∧ PySem.W.kitAny K (.type t) [.type "list", .type "tuple"] = some false ∧ ∃ b i s, PySem.W.kitOne K (.type t) (.type "bool") = some b ∧ PySem.W.kitOne K (.type t) (.type "int") = some i ∧ PySem.W.kitOne K (.type t) (.type "str") = some s := by
  cases v with
  | non => exact ⟨_, TyOf.non, rfl, _, _, _, rfl, rfl, rfl⟩
  | bl b => exact ⟨_, TyOf.bl b, rfl, _, _, _, rfl, rfl, rfl⟩
  | int i => exact ⟨_, TyOf.int i, rfl, _, _, _, rfl, rfl, rfl⟩
  | str s => exact ⟨_, TyOf.str s, rfl, _, _, _, rfl, rfl, rfl⟩
  | _ => cases h
theorem ixA_at {H : Hp} {p : Addr} {xs : List V} {i : Int} {v : V} {Q : VK} (h : SqL K H p xs ∨ SqT K H p xs) (e : atI xs i = some v) (q : Q v H) : rIxA K (.ref p) (.int i) H Q :=
  h.elim (fun h => .inl ⟨p, xs, i, v, rfl, rfl, h, e, q⟩) fun h => .inr ⟨p, xs, i, v, rfl, rfl, h, e, q⟩
theorem ok_alike {n : Nat} {f : Addr} {fd : FuncData} (F : Fun K "_law_alike" "_law_alike" sAlike f fd) (N : Nms mg) (DAlike : Def P w K mg base "_law_alike" (n + 1) ["found", "due"] (spAlike n)) : FnOk P w K mg base CX0 (n + 2) f fd ["found", "due"] (spAlike (n + 1)) := by
  refine F.okQ scAlike (fun vs H Q E h => ?_) (fun cdv A outer s H vs Q E hr h => ?_)
  · obtain ⟨_, _, rfl, _⟩ := h
    rfl
  · obtain ⟨x, y, rfl, hA, k⟩ := h
    refine ⟨_, (qss_cons (qs_if (qt_val (qe_callB (call_isiT (K := K) rfl) (by rfl) N.isinstance b_isinstance (qa_c (qv 1) (qa_c (qe_tup (qa_c (qe_bltn (v := .ty "list") (by rfl) N.list b_list rfl) (qa_c (qe_bltn (v := .ty "tuple") (by rfl) N.tuple b_tuple rfl) qa_nil))) qa_nil))))
      (qss_cons (qs_if (qw_pt (qw_or (qt_not (qt_val (qe_callB (call_isiT (K := K) rfl) (by rfl) N.isinstance b_isinstance (qa_c (qv 0) (qa_c (qe_tup (qa_c (qe_bltn (v := .ty "list") (by rfl) N.list b_list rfl) (qa_c (qe_bltn (v := .ty "tuple") (by rfl) N.tuple b_tuple rfl) qa_nil))) qa_nil))))) (qw_or1 (qt_cmpR op_ne (qe_callB (call_isiK (K := K) rfl) (by rfl) N.isinstance b_isinstance (qa_c (qv 0) (qa_c (qe_bltn (v := .ty "list") (by rfl) N.list b_list rfl) qa_nil))) (qe_callB (call_isiK (K := K) rfl) (by rfl) N.isinstance b_isinstance (qa_c (qv 1) (qa_c (qe_bltn (v := .ty "list") (by rfl) N.list b_list rfl) qa_nil))) (nomark _)))))
        (qss_one (qs_ret qe_bl))
        qss_nil)
      (qss_cons (qs_if (qt_cmpR op_ne (qe_callB (call_lenAK (K := K) rfl) (by rfl) N.len b_len (qa_c (qv 0) qa_nil)) (qe_callB (call_lenAK (K := K) rfl) (by rfl) N.len b_len (qa_c (qv 1) qa_nil)) (nomark _))
        (qss_one (qs_ret qe_bl))
        qss_nil)
      (qss_one (qs_ret (qe_callB (call_all rfl) (by rfl) N.all b_all (qa_c (qe_lc [true, true] ["k"] (qi_range1 rfl N.range (qa_c (qe_callB (call_lenAK (K := K) rfl) (by rfl) N.len b_len (qa_c (qv 1) qa_nil)) qa_nil)) (fun _ _ _ => (qg_name (i := 2) ndAlike1 rfl (Or.inl rfl))) (fun _ _ _ => qts_nil) (fun _ _ _ => (qe_def DAlike (hr.mono (by first | decide | exact Nat.le_refl _)) (qa_c (qe_ix (ix_anyK (K := K) rfl) (qv 0) (qv 2) (fun _ _ => rfl)) (qa_c (qe_ix (ix_anyK (K := K) rfl) (qv 1) (qv 2) (fun _ _ => rfl)) qa_nil))))) qa_nil))))))
      qss_nil)
    (qss_cons (qs_if (qw_pt (qw_or (qt_cmpR op_ne (qe_callB (call_isiK (K := K) rfl) (by rfl) N.isinstance b_isinstance (qa_c (qv 0) (qa_c (qe_bltn (v := .ty "bool") (by rfl) N.bool b_bool rfl) qa_nil))) (qe_callB (call_isiK (K := K) rfl) (by rfl) N.isinstance b_isinstance (qa_c (qv 1) (qa_c (qe_bltn (v := .ty "bool") (by rfl) N.bool b_bool rfl) qa_nil))) (nomark _)) (qw_or1 (qt_cmpR op_ne (qe_callB (call_isiK (K := K) rfl) (by rfl) N.isinstance b_isinstance (qa_c (qv 0) (qa_c (qe_bltn (v := .ty "int") (by rfl) N.int b_int rfl) qa_nil))) (qe_callB (call_isiK (K := K) rfl) (by rfl) N.isinstance b_isinstance (qa_c (qv 1) (qa_c (qe_bltn (v := .ty "int") (by rfl) N.int b_int rfl) qa_nil))) (nomark _)))))
      (qss_one (qs_ret qe_bl))
      qss_nil)
    (qss_one (qs_ret (qe_and (qe_cmpR op_eq (qe_callB (call_isiK (K := K) rfl) (by rfl) N.isinstance b_isinstance (qa_c (qv 0) (qa_c (qe_bltn (v := .ty "str") (by rfl) N.str b_str rfl) qa_nil))) (qe_callB (call_isiK (K := K) rfl) (by rfl) N.isinstance b_isinstance (qa_c (qv 1) (qa_c (qe_bltn (v := .ty "str") (by rfl) N.str b_str rfl) qa_nil))) (nomark _)) (qe_one (qe_cmpR op_eq (qv 0) (qv 1) (nomark _)))))))), ?_⟩
    (repeat (first | (simp only [L2.start, tSeq, tNext, tAsg, tOp, tUn, tVar, tC, gName, gSub, tRet, tRetN, tIfS, tDrop, tLM, tTru, tCall, tBM, tBM0, tRev, tChain, tComp, rd_for, rd_iList, rd_iRng1, rd_iRev, rd_iEnum, rd_pi, tSl, tNoPart, tPart, rd_I, rd_I0, rd_U, rd_test, rd_bl, tCB, tCons, tNil, tTup, tLst, tYes, tAnd, tOr, tNot, tB, tIf, tAndV, tOrV, tNotV, tTest, rd_l1, rd_l2, rd_lr, List.getElem?_cons_zero, List.getElem?_cons_succ, Option.some.injEq, exists_eq_left', List.set_cons_zero, List.set_cons_succ, maskS, List.zip_cons_cons, List.zip_nil_left, List.zip_nil_right, List.map_cons, List.map_nil, List.length_cons, List.length_nil, List.replicate, List.append_nil, List.nil_append, List.cons_append, Bool.false_eq_true, if_true, if_false, decide_eq_true_eq, Nat.zero_add, dec_eq_int, dec_eq_str]) | refine ixL_at (by walk_at "hp") rfl ?_ | refine ixT_at (by walk_at "hp") rfl ?_ | refine ixL_at (by walk_at "hp") at0 ?_ | refine setL_at (by walk_at "hp") rfl ?_ | refine len_at (by walk_at "hp") ?_ | refine gTup2_at (by walk_at "hp") ?_ | refine gTup3_at (by walk_at "hp") ?_ | refine lm_at (by walk_at "hp") ?_ | refine it_at (by walk_at "hp") ?_ | refine eq_at rfl ?_ | refine ne_at rfl ?_))
    refine ⟨by decide, fun p1 hp1 => ?_⟩
    (repeat (first | (simp only [L2.start, tSeq, tNext, tAsg, tOp, tUn, tVar, tC, gName, gSub, tRet, tRetN, tIfS, tDrop, tLM, tTru, tCall, tBM, tBM0, tRev, tChain, tComp, rd_for, rd_iList, rd_iRng1, rd_iRev, rd_iEnum, rd_pi, tSl, tNoPart, tPart, rd_I, rd_I0, rd_U, rd_test, rd_bl, tCB, tCons, tNil, tTup, tLst, tYes, tAnd, tOr, tNot, tB, tIf, tAndV, tOrV, tNotV, tTest, rd_l1, rd_l2, rd_lr, List.getElem?_cons_zero, List.getElem?_cons_succ, Option.some.injEq, exists_eq_left', List.set_cons_zero, List.set_cons_succ, maskS, List.zip_cons_cons, List.zip_nil_left, List.zip_nil_right, List.map_cons, List.map_nil, List.length_cons, List.length_nil, List.replicate, List.append_nil, List.nil_append, List.cons_append, Bool.false_eq_true, if_true, if_false, decide_eq_true_eq, Nat.zero_add, dec_eq_int, dec_eq_str]) | refine ixL_at (by walk_at "hp") rfl ?_ | refine ixT_at (by walk_at "hp") rfl ?_ | refine ixL_at (by walk_at "hp") at0 ?_ | refine setL_at (by walk_at "hp") rfl ?_ | refine len_at (by walk_at "hp") ?_ | refine gTup2_at (by walk_at "hp") ?_ | refine gTup3_at (by walk_at "hp") ?_ | refine lm_at (by walk_at "hp") ?_ | refine it_at (by walk_at "hp") ?_ | refine eq_at rfl ?_ | refine ne_at rfl ?_))
    have s1 : Same H (upd H p1 (.tup [.ty "list", .ty "tuple"])) := (Same.refl H).upd hp1
    rcases hA with ⟨rfl, hf⟩ | ⟨p, q, xs, ys, rfl, rfl, h, l1, l2, kk⟩
    · obtain ⟨t, ty, e1, b, i, st, e2, e3, e4⟩ := ty_flat (K := K) (H := upd H p1 (.tup [.ty "list", .ty "tuple"])) hf
      refine ⟨x, p1, ["list", "tuple"], t, false, rfl, upd_same, ty, e1, ?_⟩
      (repeat (first | (simp only [L2.start, tSeq, tNext, tAsg, tOp, tUn, tVar, tC, gName, gSub, tRet, tRetN, tIfS, tDrop, tLM, tTru, tCall, tBM, tBM0, tRev, tChain, tComp, rd_for, rd_iList, rd_iRng1, rd_iRev, rd_iEnum, rd_pi, tSl, tNoPart, tPart, rd_I, rd_I0, rd_U, rd_test, rd_bl, tCB, tCons, tNil, tTup, tLst, tYes, tAnd, tOr, tNot, tB, tIf, tAndV, tOrV, tNotV, tTest, rd_l1, rd_l2, rd_lr, List.getElem?_cons_zero, List.getElem?_cons_succ, Option.some.injEq, exists_eq_left', List.set_cons_zero, List.set_cons_succ, maskS, List.zip_cons_cons, List.zip_nil_left, List.zip_nil_right, List.map_cons, List.map_nil, List.length_cons, List.length_nil, List.replicate, List.append_nil, List.nil_append, List.cons_append, Bool.false_eq_true, if_true, if_false, decide_eq_true_eq, Nat.zero_add, dec_eq_int, dec_eq_str]) | refine ixL_at (by walk_at "hp") rfl ?_ | refine ixT_at (by walk_at "hp") rfl ?_ | refine ixL_at (by walk_at "hp") at0 ?_ | refine setL_at (by walk_at "hp") rfl ?_ | refine len_at (by walk_at "hp") ?_ | refine gTup2_at (by walk_at "hp") ?_ | refine gTup3_at (by walk_at "hp") ?_ | refine lm_at (by walk_at "hp") ?_ | refine it_at (by walk_at "hp") ?_ | refine eq_at rfl ?_ | refine ne_at rfl ?_))
      refine isi_at ty e2 ?_
      refine isi_at ty e2 ?_
      (repeat (first | (simp only [L2.start, tSeq, tNext, tAsg, tOp, tUn, tVar, tC, gName, gSub, tRet, tRetN, tIfS, tDrop, tLM, tTru, tCall, tBM, tBM0, tRev, tChain, tComp, rd_for, rd_iList, rd_iRng1, rd_iRev, rd_iEnum, rd_pi, tSl, tNoPart, tPart, rd_I, rd_I0, rd_U, rd_test, rd_bl, tCB, tCons, tNil, tTup, tLst, tYes, tAnd, tOr, tNot, tB, tIf, tAndV, tOrV, tNotV, tTest, rd_l1, rd_l2, rd_lr, List.getElem?_cons_zero, List.getElem?_cons_succ, Option.some.injEq, exists_eq_left', List.set_cons_zero, List.set_cons_succ, maskS, List.zip_cons_cons, List.zip_nil_left, List.zip_nil_right, List.map_cons, List.map_nil, List.length_cons, List.length_nil, List.replicate, List.append_nil, List.nil_append, List.cons_append, Bool.false_eq_true, if_true, if_false, decide_eq_true_eq, Nat.zero_add, dec_eq_int, dec_eq_str]) | refine ixL_at (by walk_at "hp") rfl ?_ | refine ixT_at (by walk_at "hp") rfl ?_ | refine ixL_at (by walk_at "hp") at0 ?_ | refine setL_at (by walk_at "hp") rfl ?_ | refine len_at (by walk_at "hp") ?_ | refine gTup2_at (by walk_at "hp") ?_ | refine gTup3_at (by walk_at "hp") ?_ | refine lm_at (by walk_at "hp") ?_ | refine it_at (by walk_at "hp") ?_ | refine eq_at rfl ?_ | refine ne_at rfl ?_))
      refine ite2 (fun hh => absurd hh (by simp)) (fun _ => ?_)
      refine isi_at ty e3 ?_
      refine isi_at ty e3 ?_
      (repeat (first | (simp only [L2.start, tSeq, tNext, tAsg, tOp, tUn, tVar, tC, gName, gSub, tRet, tRetN, tIfS, tDrop, tLM, tTru, tCall, tBM, tBM0, tRev, tChain, tComp, rd_for, rd_iList, rd_iRng1, rd_iRev, rd_iEnum, rd_pi, tSl, tNoPart, tPart, rd_I, rd_I0, rd_U, rd_test, rd_bl, tCB, tCons, tNil, tTup, tLst, tYes, tAnd, tOr, tNot, tB, tIf, tAndV, tOrV, tNotV, tTest, rd_l1, rd_l2, rd_lr, List.getElem?_cons_zero, List.getElem?_cons_succ, Option.some.injEq, exists_eq_left', List.set_cons_zero, List.set_cons_succ, maskS, List.zip_cons_cons, List.zip_nil_left, List.zip_nil_right, List.map_cons, List.map_nil, List.length_cons, List.length_nil, List.replicate, List.append_nil, List.nil_append, List.cons_append, Bool.false_eq_true, if_true, if_false, decide_eq_true_eq, Nat.zero_add, dec_eq_int, dec_eq_str]) | refine ixL_at (by walk_at "hp") rfl ?_ | refine ixT_at (by walk_at "hp") rfl ?_ | refine ixL_at (by walk_at "hp") at0 ?_ | refine setL_at (by walk_at "hp") rfl ?_ | refine len_at (by walk_at "hp") ?_ | refine gTup2_at (by walk_at "hp") ?_ | refine gTup3_at (by walk_at "hp") ?_ | refine lm_at (by walk_at "hp") ?_ | refine it_at (by walk_at "hp") ?_ | refine eq_at rfl ?_ | refine ne_at rfl ?_))
      refine ite2 (fun hh => absurd hh (by simp)) (fun _ => ?_)
      refine isi_at ty e4 ?_
      refine isi_at ty e4 ?_
      (repeat (first | (simp only [L2.start, tSeq, tNext, tAsg, tOp, tUn, tVar, tC, gName, gSub, tRet, tRetN, tIfS, tDrop, tLM, tTru, tCall, tBM, tBM0, tRev, tChain, tComp, rd_for, rd_iList, rd_iRng1, rd_iRev, rd_iEnum, rd_pi, tSl, tNoPart, tPart, rd_I, rd_I0, rd_U, rd_test, rd_bl, tCB, tCons, tNil, tTup, tLst, tYes, tAnd, tOr, tNot, tB, tIf, tAndV, tOrV, tNotV, tTest, rd_l1, rd_l2, rd_lr, List.getElem?_cons_zero, List.getElem?_cons_succ, Option.some.injEq, exists_eq_left', List.set_cons_zero, List.set_cons_succ, maskS, List.zip_cons_cons, List.zip_nil_left, List.zip_nil_right, List.map_cons, List.map_nil, List.length_cons, List.length_nil, List.replicate, List.append_nil, List.nil_append, List.cons_append, Bool.false_eq_true, if_true, if_false, decide_eq_true_eq, Nat.zero_add, dec_eq_int, dec_eq_str]) | refine ixL_at (by walk_at "hp") rfl ?_ | refine ixT_at (by walk_at "hp") rfl ?_ | refine ixL_at (by walk_at "hp") at0 ?_ | refine setL_at (by walk_at "hp") rfl ?_ | refine len_at (by walk_at "hp") ?_ | refine gTup2_at (by walk_at "hp") ?_ | refine gTup3_at (by walk_at "hp") ?_ | refine lm_at (by walk_at "hp") ?_ | refine it_at (by walk_at "hp") ?_ | refine eq_at rfl ?_ | refine ne_at rfl ?_))
      have hq := k _ s1
      cases x with
      | non => exact eq_at rfl (by simpa [eqV] using hq)
      | bl b => exact eq_at rfl (by simpa [eqV] using hq)
      | int b => exact eq_at rfl (by simpa [eqV] using hq)
      | str b => exact eq_at rfl (by simpa [eqV] using hq)
      | _ => cases hf
    · obtain ⟨t, bl, tys, e1, e2⟩ : ∃ (t : String) (bl : Bool), (∀ H', Same H H' → TyOf K H' (.ref p) (.type t) ∧ TyOf K H' (.ref q) (.type t) ∧ (SqL K H' p xs ∨ SqT K H' p xs) ∧ (SqL K H' q ys ∨ SqT K H' q ys)) ∧ PySem.W.kitAny K (.type t) [.type "list", .type "tuple"] = some true ∧ PySem.W.kitOne K (.type t) (.type "list") = some bl := by
        rcases h with ⟨h1, h2⟩ | ⟨h1, h2⟩
        · exact ⟨"list", true, (fun H' s => ⟨TyOf.lst (s _ _ h1), TyOf.lst (s _ _ h2), .inl (SqL.of (s _ _ h1)), .inl (SqL.of (s _ _ h2))⟩), rfl, rfl⟩
        · exact ⟨"tuple", false, (fun H' s => ⟨TyOf.tup (s _ _ h1), TyOf.tup (s _ _ h2), .inr (SqT.of (s _ _ h1)), .inr (SqT.of (s _ _ h2))⟩), rfl, rfl⟩
      refine ⟨_, p1, ["list", "tuple"], t, true, rfl, upd_same, (tys _ s1).2.1, e1, ?_⟩
      (repeat (first | (simp only [L2.start, tSeq, tNext, tAsg, tOp, tUn, tVar, tC, gName, gSub, tRet, tRetN, tIfS, tDrop, tLM, tTru, tCall, tBM, tBM0, tRev, tChain, tComp, rd_for, rd_iList, rd_iRng1, rd_iRev, rd_iEnum, rd_pi, tSl, tNoPart, tPart, rd_I, rd_I0, rd_U, rd_test, rd_bl, tCB, tCons, tNil, tTup, tLst, tYes, tAnd, tOr, tNot, tB, tIf, tAndV, tOrV, tNotV, tTest, rd_l1, rd_l2, rd_lr, List.getElem?_cons_zero, List.getElem?_cons_succ, Option.some.injEq, exists_eq_left', List.set_cons_zero, List.set_cons_succ, maskS, List.zip_cons_cons, List.zip_nil_left, List.zip_nil_right, List.map_cons, List.map_nil, List.length_cons, List.length_nil, List.replicate, List.append_nil, List.nil_append, List.cons_append, Bool.false_eq_true, if_true, if_false, decide_eq_true_eq, Nat.zero_add, dec_eq_int, dec_eq_str]) | refine ixL_at (by walk_at "hp") rfl ?_ | refine ixT_at (by walk_at "hp") rfl ?_ | refine ixL_at (by walk_at "hp") at0 ?_ | refine setL_at (by walk_at "hp") rfl ?_ | refine len_at (by walk_at "hp") ?_ | refine gTup2_at (by walk_at "hp") ?_ | refine gTup3_at (by walk_at "hp") ?_ | refine lm_at (by walk_at "hp") ?_ | refine it_at (by walk_at "hp") ?_ | refine eq_at rfl ?_ | refine ne_at rfl ?_))
      refine ⟨by decide, fun p2 hp2 => ?_⟩
      (repeat (first | (simp only [L2.start, tSeq, tNext, tAsg, tOp, tUn, tVar, tC, gName, gSub, tRet, tRetN, tIfS, tDrop, tLM, tTru, tCall, tBM, tBM0, tRev, tChain, tComp, rd_for, rd_iList, rd_iRng1, rd_iRev, rd_iEnum, rd_pi, tSl, tNoPart, tPart, rd_I, rd_I0, rd_U, rd_test, rd_bl, tCB, tCons, tNil, tTup, tLst, tYes, tAnd, tOr, tNot, tB, tIf, tAndV, tOrV, tNotV, tTest, rd_l1, rd_l2, rd_lr, List.getElem?_cons_zero, List.getElem?_cons_succ, Option.some.injEq, exists_eq_left', List.set_cons_zero, List.set_cons_succ, maskS, List.zip_cons_cons, List.zip_nil_left, List.zip_nil_right, List.map_cons, List.map_nil, List.length_cons, List.length_nil, List.replicate, List.append_nil, List.nil_append, List.cons_append, Bool.false_eq_true, if_true, if_false, decide_eq_true_eq, Nat.zero_add, dec_eq_int, dec_eq_str]) | refine ixL_at (by walk_at "hp") rfl ?_ | refine ixT_at (by walk_at "hp") rfl ?_ | refine ixL_at (by walk_at "hp") at0 ?_ | refine setL_at (by walk_at "hp") rfl ?_ | refine len_at (by walk_at "hp") ?_ | refine gTup2_at (by walk_at "hp") ?_ | refine gTup3_at (by walk_at "hp") ?_ | refine lm_at (by walk_at "hp") ?_ | refine it_at (by walk_at "hp") ?_ | refine eq_at rfl ?_ | refine ne_at rfl ?_))
      have s2 := s1.trans ((Same.refl _).upd (o := .tup [.ty "list", .ty "tuple"]) hp2)
      refine ⟨_, p2, ["list", "tuple"], t, true, rfl, upd_same, (tys _ s2).1, e1, ?_⟩
      (repeat (first | (simp only [L2.start, tSeq, tNext, tAsg, tOp, tUn, tVar, tC, gName, gSub, tRet, tRetN, tIfS, tDrop, tLM, tTru, tCall, tBM, tBM0, tRev, tChain, tComp, rd_for, rd_iList, rd_iRng1, rd_iRev, rd_iEnum, rd_pi, tSl, tNoPart, tPart, rd_I, rd_I0, rd_U, rd_test, rd_bl, tCB, tCons, tNil, tTup, tLst, tYes, tAnd, tOr, tNot, tB, tIf, tAndV, tOrV, tNotV, tTest, rd_l1, rd_l2, rd_lr, List.getElem?_cons_zero, List.getElem?_cons_succ, Option.some.injEq, exists_eq_left', List.set_cons_zero, List.set_cons_succ, maskS, List.zip_cons_cons, List.zip_nil_left, List.zip_nil_right, List.map_cons, List.map_nil, List.length_cons, List.length_nil, List.replicate, List.append_nil, List.nil_append, List.cons_append, Bool.false_eq_true, if_true, if_false, decide_eq_true_eq, Nat.zero_add, dec_eq_int, dec_eq_str]) | refine ixL_at (by walk_at "hp") rfl ?_ | refine ixT_at (by walk_at "hp") rfl ?_ | refine ixL_at (by walk_at "hp") at0 ?_ | refine setL_at (by walk_at "hp") rfl ?_ | refine len_at (by walk_at "hp") ?_ | refine gTup2_at (by walk_at "hp") ?_ | refine gTup3_at (by walk_at "hp") ?_ | refine lm_at (by walk_at "hp") ?_ | refine it_at (by walk_at "hp") ?_ | refine eq_at rfl ?_ | refine ne_at rfl ?_))
      refine ite2 (fun hh => absurd hh (by decide)) (fun _ => ?_)
      refine isi_at (tys _ s2).1 e2 ?_
      refine isi_at (tys _ s2).2.1 e2 ?_
      (repeat (first | (simp only [L2.start, tSeq, tNext, tAsg, tOp, tUn, tVar, tC, gName, gSub, tRet, tRetN, tIfS, tDrop, tLM, tTru, tCall, tBM, tBM0, tRev, tChain, tComp, rd_for, rd_iList, rd_iRng1, rd_iRev, rd_iEnum, rd_pi, tSl, tNoPart, tPart, rd_I, rd_I0, rd_U, rd_test, rd_bl, tCB, tCons, tNil, tTup, tLst, tYes, tAnd, tOr, tNot, tB, tIf, tAndV, tOrV, tNotV, tTest, rd_l1, rd_l2, rd_lr, List.getElem?_cons_zero, List.getElem?_cons_succ, Option.some.injEq, exists_eq_left', List.set_cons_zero, List.set_cons_succ, maskS, List.zip_cons_cons, List.zip_nil_left, List.zip_nil_right, List.map_cons, List.map_nil, List.length_cons, List.length_nil, List.replicate, List.append_nil, List.nil_append, List.cons_append, Bool.false_eq_true, if_true, if_false, decide_eq_true_eq, Nat.zero_add, dec_eq_int, dec_eq_str]) | refine ixL_at (by walk_at "hp") rfl ?_ | refine ixT_at (by walk_at "hp") rfl ?_ | refine ixL_at (by walk_at "hp") at0 ?_ | refine setL_at (by walk_at "hp") rfl ?_ | refine len_at (by walk_at "hp") ?_ | refine gTup2_at (by walk_at "hp") ?_ | refine gTup3_at (by walk_at "hp") ?_ | refine lm_at (by walk_at "hp") ?_ | refine it_at (by walk_at "hp") ?_ | refine eq_at rfl ?_ | refine ne_at rfl ?_))
      refine ite2 (fun hh => absurd hh (by simp)) (fun _ => ?_)
      refine ⟨p, xs, rfl, (tys _ s2).2.2.1, ?_⟩
      refine ⟨q, ys, rfl, (tys _ s2).2.2.2, ?_⟩
      (repeat (first | (simp only [L2.start, tSeq, tNext, tAsg, tOp, tUn, tVar, tC, gName, gSub, tRet, tRetN, tIfS, tDrop, tLM, tTru, tCall, tBM, tBM0, tRev, tChain, tComp, rd_for, rd_iList, rd_iRng1, rd_iRev, rd_iEnum, rd_pi, tSl, tNoPart, tPart, rd_I, rd_I0, rd_U, rd_test, rd_bl, tCB, tCons, tNil, tTup, tLst, tYes, tAnd, tOr, tNot, tB, tIf, tAndV, tOrV, tNotV, tTest, rd_l1, rd_l2, rd_lr, List.getElem?_cons_zero, List.getElem?_cons_succ, Option.some.injEq, exists_eq_left', List.set_cons_zero, List.set_cons_succ, maskS, List.zip_cons_cons, List.zip_nil_left, List.zip_nil_right, List.map_cons, List.map_nil, List.length_cons, List.length_nil, List.replicate, List.append_nil, List.nil_append, List.cons_append, Bool.false_eq_true, if_true, if_false, decide_eq_true_eq, Nat.zero_add, dec_eq_int, dec_eq_str]) | refine ixL_at (by walk_at "hp") rfl ?_ | refine ixT_at (by walk_at "hp") rfl ?_ | refine ixL_at (by walk_at "hp") at0 ?_ | refine setL_at (by walk_at "hp") rfl ?_ | refine len_at (by walk_at "hp") ?_ | refine gTup2_at (by walk_at "hp") ?_ | refine gTup3_at (by walk_at "hp") ?_ | refine lm_at (by walk_at "hp") ?_ | refine it_at (by walk_at "hp") ?_ | refine eq_at rfl ?_ | refine ne_at rfl ?_))
      refine ite2 (fun hh => absurd hh (by simp [l1])) (fun _ => ?_)
      refine ⟨q, ys, rfl, (tys _ s2).2.2.2, ?_⟩
      refine rg_at (by omega) (by omega) ?_
      intro acc hacc
      generalize upd (upd H p1 (.tup [.ty "list", .ty "tuple"])) p2 (.tup [.ty "list", .ty "tuple"]) = Hc at s2 hacc ⊢
      refine comp_range (fun i H3 => Same Hc H3 ∧ H3 acc = some (.lst ((List.replicate i true).map V.bl))) ?_ ?_ ?_
      · exact ⟨(Same.refl Hc).upd hacc, upd_same⟩
      · rintro i H3 hi ⟨s3, e3⟩
        (repeat (first | (simp only [L2.start, tSeq, tNext, tAsg, tOp, tUn, tVar, tC, gName, gSub, tRet, tRetN, tIfS, tDrop, tLM, tTru, tCall, tBM, tBM0, tRev, tChain, tComp, rd_for, rd_iList, rd_iRng1, rd_iRev, rd_iEnum, rd_pi, tSl, tNoPart, tPart, rd_I, rd_I0, rd_U, rd_test, rd_bl, tCB, tCons, tNil, tTup, tLst, tYes, tAnd, tOr, tNot, tB, tIf, tAndV, tOrV, tNotV, tTest, rd_l1, rd_l2, rd_lr, List.getElem?_cons_zero, List.getElem?_cons_succ, Option.some.injEq, exists_eq_left', List.set_cons_zero, List.set_cons_succ, maskS, List.zip_cons_cons, List.zip_nil_left, List.zip_nil_right, List.map_cons, List.map_nil, List.length_cons, List.length_nil, List.replicate, List.append_nil, List.nil_append, List.cons_append, Bool.false_eq_true, if_true, if_false, decide_eq_true_eq, Nat.zero_add, dec_eq_int, dec_eq_str]) | refine ixL_at (by walk_at "hp") rfl ?_ | refine ixT_at (by walk_at "hp") rfl ?_ | refine ixL_at (by walk_at "hp") at0 ?_ | refine setL_at (by walk_at "hp") rfl ?_ | refine len_at (by walk_at "hp") ?_ | refine gTup2_at (by walk_at "hp") ?_ | refine gTup3_at (by walk_at "hp") ?_ | refine lm_at (by walk_at "hp") ?_ | refine it_at (by walk_at "hp") ?_ | refine eq_at rfl ?_ | refine ne_at rfl ?_))
        have hi1 : i < ys.length := by omega
        have hi2 : i < xs.length := by omega
        have g1 : xs[i]? = some xs[i] := List.getElem?_eq_getElem hi2
        have g2 : ys[i]? = some ys[i] := List.getElem?_eq_getElem hi1
        have s13 := s2.trans s3
        rw [Int.zero_add]
        refine ⟨⟨by (repeat (first | exact ExtS.nl | refine ExtS.sm ?_ | refine ExtS.no ?_)), trivial⟩, ixA_at (tys _ s13).2.2.1 (atI_nat g1) (ixA_at (tys _ s13).2.2.2 (atI_nat g2) ?_)⟩
        refine ⟨_, _, rfl, (kk i _ _ g1 g2).same s13, fun H6 s6 => ?_⟩
        refine ⟨_, s6 _ _ e3, ?_, (s3.trans s6).upd hacc, ?_⟩
        · rw [List.length_map, List.length_replicate]
          have : 100000 < sizeLine := by decide
          omega
        · rw [upd_same]
          have : (V.bl true :: List.map V.bl (List.replicate i true)) = List.map V.bl (List.replicate i true) ++ [V.bl true] := by
            rw [List.map_replicate, ← List.replicate_succ, List.replicate_succ']
          rw [this]
      · rintro H3 ⟨s3, e3⟩
        refine ⟨acc, List.replicate (Int.toNat ys.length) true, rfl, e3, ?_⟩
        have : (List.replicate (Int.toNat ys.length) true).all id = true := by simp
        rw [this]
        exact k H3 (s2.trans s3)
theorem ok_alike0 {f : Addr} {fd : FuncData} (F : Fun K "_law_alike" "_law_alike" sAlike f fd) : FnOk P w K mg base CX0 1 f fd ["found", "due"] (spAlike 0) := by
  refine F.okQ scAlike (fun vs H Q E h => ?_) (fun cdv A outer s H vs Q E hr h => ?_)
  · obtain ⟨_, _, _, h, _⟩ := h
    exact h.elim
  · obtain ⟨_, _, _, h, _⟩ := h
    exact h.elim
theorem ok_alike3 {f : Addr} {fd : FuncData} (F : Fun K "_law_alike" "_law_alike" sAlike f fd) (N : Nms mg) (hm : mg "_law_alike" = some (.ref f)) (hk : PySem.W.keepIn K (.ref f) = true) (hb : Binds K fd ["found", "due"] []) : FnOk P w K mg base CX0 4 f fd ["found", "due"] (spAlike 3) :=
  ok_alike F N ⟨f, fd, hm, hk, hb, ok_alike F N ⟨f, fd, hm, hk, hb, ok_alike F N ⟨f, fd, hm, hk, hb, ok_alike0 F⟩⟩⟩

/-- trees of ints, truths and texts, to a depth -/
def depT : Nat → T → Prop
  | 0, _ => False
  | n + 1, .tup xs => xs.length ≤ 100000 ∧ ∀ x ∈ xs, depT n x
  | n + 1, .lst xs => xs.length ≤ 100000 ∧ ∀ x ∈ xs, depT n x
  | _ + 1, _ => True
def gAlike (n : Nat) : List T → (T → Prop) → Prop := fun ts Q => ∃ t, ts = [t, t] ∧ depT n t ∧ Q (.bl true)
theorem al_of {A : Addr → Prop} {H : Hp} : ∀ {n : Nat} {t : T} {x y : V}, depT n t → RepT A H x t → RepT A H y t → AL H n x y
  | 0, _, _, _, h, _, _ => h.elim
  | n + 1, .non, _, _, _, .non, .non => .inl ⟨rfl, rfl⟩
  | n + 1, .bl b, _, _, _, .bl _, .bl _ => .inl ⟨rfl, rfl⟩
  | n + 1, .int b, _, _, _, .int _, .int _ => .inl ⟨rfl, rfl⟩
  | n + 1, .str b, _, _, _, .str _, .str _ => .inl ⟨rfl, rfl⟩
  | n + 1, .tup xs, x, y, h, r1, r2 => by
    obtain ⟨p, vs, rfl, _, h1, q1⟩ := r1.tup_inv
    obtain ⟨p2, vs2, rfl, _, h2, q2⟩ := r2.tup_inv
    refine .inr ⟨p, p2, vs, vs2, rfl, rfl, .inr ⟨h1, h2⟩, by rw [q1.len, q2.len], by rw [q1.len]; exact h.1, fun j a b ha hb => ?_⟩
    obtain ⟨t, ht, rt⟩ := Paired.getL q1 ha
    obtain ⟨t', ht', rt'⟩ := Paired.getL q2 hb
    rw [ht] at ht'; cases ht'
    exact al_of (h.2 t (List.mem_of_getElem? ht)) rt rt'
  | n + 1, .lst xs, x, y, h, r1, r2 => by
    obtain ⟨p, vs, rfl, _, h1, q1⟩ := r1.lst_inv
    obtain ⟨p2, vs2, rfl, _, h2, q2⟩ := r2.lst_inv
    refine .inr ⟨p, p2, vs, vs2, rfl, rfl, .inl ⟨h1, h2⟩, by rw [q1.len, q2.len], by rw [q1.len]; exact h.1, fun j a b ha hb => ?_⟩
    obtain ⟨t, ht, rt⟩ := Paired.getL q1 ha
    obtain ⟨t', ht', rt'⟩ := Paired.getL q2 hb
    rw [ht] at ht'; cases ht'
    exact al_of (h.2 t (List.mem_of_getElem? ht)) rt rt'
theorem ok_alike3U {f : Addr} {fd : FuncData} (F : Fun K "_law_alike" "_law_alike" sAlike f fd) (N : Nms mg) (hm : mg "_law_alike" = some (.ref f)) (hk : PySem.W.keepIn K (.ref f) = true) (hb : Binds K fd ["found", "due"] []) : FnOk P w K mg base CX0 4 f fd ["found", "due"] (spP (gAlike 3)) := by
  refine (ok_alike3 F N hm hk hb).imp fun vs H Q E h => ?_
  obtain ⟨A, ts, Qt, hd, r, ⟨t, rfl, hdep, q⟩, k⟩ := h
  cases r with
  | cons r1 r =>
  cases r with
  | cons r2 r =>
  cases r
  exact ⟨_, _, rfl, al_of hdep r1 r2, fun H' s => k _ _ H' s (.bl true) q⟩

/-! ### plain stores without pairs -/
inductive Wt where
  | num (n : Int) | one (t : Str) | sgn (k : Int)
  deriving DecidableEq
def tW : Wt → T
  | .num n => .int n
  | .one t => .str t
  | .sgn k => .tup [.str "sign", .int k]
def kindW : Wt → Str
  | .num _ => "number"
  | .one _ => "one"
  | .sgn _ => "sign"
def lw (ws : List Wt) : MO := .lst (ws.map fun x => U.p (tW x))
structure TxP (K : PySem.W.Frag) (CP : Addr) : Prop where
  c : Cls K CP
  na : NoAttr K CP "held"
structure Sto (CP : Addr) (M : MM) (ks kh : Nat) (ws : List Wt) : Prop where
  s : M[ks]? = some (.ins CP [("held", .m kh)])
  h : M[kh]? = some (lw ws)
  n : ws.length = 8
theorem held_at {CP : Addr} {M : MM} {ks kh : Nat} {ws : List Wt} {Q : UK} (TP : TxP K CP) (S : Sto CP M ks kh ws) (q : Q (.m kh) M) : FldS K "held" (.m ks) M Q := fldU_at TP.c TP.na S.s (by simp [List.lookup]) q
theorem lw_items {M : MM} {kh : Nat} {ws : List Wt} (h : M[kh]? = some (lw ws)) : itemsL M (.m kh) = some (ws.map fun x => U.p (tW x)) := by simp [itemsL, h, lw]
theorem wix_at {M : MM} {kh q : Nat} {ws : List Wt} {x : Wt} {Q : UK} (h : M[kh]? = some (lw ws)) (hq : ws[q]? = some x) (qq : Q (.p (tW x)) M) : IxS itemsL M (.m kh) (.p (.int (q : Int))) Q :=
  ix_at (lw_items h) (atI_nat (by rw [List.getElem?_map, hq]; rfl)) qq
/-- held[r] = x -/
theorem wput_at {M : MM} {kh r : Nat} {ws : List Wt} {x : Wt} {R : MM → Prop} (h : M[kh]? = some (lw ws)) (hr : r < ws.length) (q : R (M.set kh (lw (ws.set r x)))) : SubS M (.m kh) (.p (.int (r : Int))) (.p (tW x)) R := by
  refine ⟨kh, _, r, r, rfl, h, rfl, ?_, ?_⟩
  · rw [List.length_map]
    unfold ixN
    simp [hr]
  · have : (MO.lst ((ws.map fun x => U.p (tW x)).set r (.p (tW x)))) = lw (ws.set r x) := by unfold lw; rw [List.map_set]
    rw [this]; exact q
theorem eqW_at {a b : Wt} {Q : T → Prop} (q : Q (.bl (decide (a = b)))) : sEqW (tW a) (tW b) Q := by
  have nf : ∀ {p : Prop} [Decidable p], ¬ p → Q (.bl (decide p)) → Q (.bl false) := fun h z => by rw [decide_eq_false h] at z; exact z
  cases a with
  | num n =>
    cases b with
    | num m => exact .inl ⟨_, _, rfl, rfl, rfl, by simpa using q⟩
    | one t => exact .inl ⟨_, _, rfl, rfl, rfl, by simpa using q⟩
    | sgn k => exact .inr (.inr (.inl ⟨_, rfl, rfl, by simpa using q⟩))
  | one s =>
    cases b with
    | num m => exact .inl ⟨_, _, rfl, rfl, rfl, by simpa using q⟩
    | one t => exact .inl ⟨_, _, rfl, rfl, rfl, by simpa using q⟩
    | sgn k => exact .inr (.inr (.inl ⟨_, rfl, rfl, by simpa using q⟩))
  | sgn k =>
    cases b with
    | num m => exact .inr (.inr (.inr ⟨_, rfl, rfl, by simpa using q⟩))
    | one t => exact .inr (.inr (.inr ⟨_, rfl, rfl, by simpa using q⟩))
    | sgn l =>
      refine .inr (.inl ⟨_, _, fun j => if j = 0 then true else decide (k = l), rfl, rfl, fun j x y hx hy => ?_, ?_⟩)
      · match j with
        | 0 =>
          simp at hx hy
          subst hx hy
          exact EqT.flat (n := 20) (a := .str "sign") (b := .str "sign") rfl rfl
        | 1 =>
          simp at hx hy
          subst hx hy
          have := EqT.flat (n := 20) (a := .int k) (b := .int l) rfl rfl
          have e : eqV (.int k) (.int l) = decide (k = l) := by
            by_cases h : k = l
            · subst h; simp [eqV]
            · simp [eqV, h]
          rw [e] at this
          simpa using this
        | j + 2 => simp at hx
      · have e : ((List.range (min [T.str "sign", T.int k].length [T.str "sign", T.int l].length)).all (fun j => if j = 0 then true else decide (k = l)) && [T.str "sign", T.int k].length == [T.str "sign", T.int l].length) = decide (Wt.sgn k = Wt.sgn l) := by
          by_cases h : k = l
          · subst h; simp [List.range_succ]
          · simp [h, List.range_succ]
        simp only [Bool.false_eq_true, if_false]
        rw [e]
        exact q
theorem ite_no {p : Prop} [Decidable p] {a b : Prop} (h : ¬ p) (q : b) : if p then a else b := by rw [if_neg h]; exact q
theorem ite_yes {p : Prop} [Decidable p] {a b : Prop} (h : p) (q : a) : if p then a else b := by rw [if_pos h]; exact q
abbrev sKindOf : Stmt := top 12
theorem scKindOf : FnScope ["worth"] ["worth"] (defScope sKindOf) := ⟨rfl, rfl, rfl, by decide +kernel, rfl, by decide +kernel, by decide +kernel⟩
def gKindOf : List T → (T → Prop) → Prop := fun ts Q => ∃ x : Wt, ts = [tW x] ∧ Q (.str (kindW x))
theorem ok_kind_ofU {f : Addr} {fd : FuncData} (F : Fun K "kind_of" "kind_of" sKindOf f fd) (N : Nms mg) : FnOk P w K mg base CX0 1 f fd ["worth"] (spP gKindOf) := by
  refine F.zP scKindOf (fun ts Qt h => ?_) (fun cdv A outer s H E hr => ?_)
  · obtain ⟨_, rfl, _⟩ := h
    rfl
  refine ⟨_, (qss_cons (qs_if (qt_val (qe_callB (call_isiK (K := K) rfl) (by rfl) N.isinstance b_isinstance (qa_c (qv 0) (qa_c (qe_bltn (v := .ty "int") (by rfl) N.int b_int rfl) qa_nil))))
      (qss_one (qs_ret qe_str))
      qss_nil)
    (qss_cons (qs_if (qt_val (qe_callB (call_isiK (K := K) rfl) (by rfl) N.isinstance b_isinstance (qa_c (qv 0) (qa_c (qe_bltn (v := .ty "tuple") (by rfl) N.tuple b_tuple rfl) qa_nil))))
      (qss_one (qs_ret qe_str))
      qss_nil)
    (qss_cons (qs_if (qt_val (qe_callB (call_isiK (K := K) rfl) (by rfl) N.isinstance b_isinstance (qa_c (qv 0) (qa_c (qe_bltn (v := .ty "str") (by rfl) N.str b_str rfl) qa_nil))))
      (qss_one (qs_ret qe_str))
      qss_nil)
    (qss_one (qs_ret qe_str))))), _, (cs_seq (cs_if (ct_b (ce_isi .int (ce_var 0)))
      (cs_ret (ce_c (.str _)))
      cs_next)
      (cs_seq (cs_if (ct_b (ce_isi .tuple (ce_var 0)))
      (cs_ret (ce_c (.str _)))
      cs_next)
      (cs_seq (cs_if (ct_b (ce_isi .str (ce_var 0)))
      (cs_ret (ce_c (.str _)))
      cs_next)
      (cs_ret (ce_c (.str _)))))), fun ts Qt h => ?_⟩
  obtain ⟨x, rfl, q⟩ := h
  cases x <;> (walk_at "v"; simp only [tW]; walk_at "v"; exact q)
abbrev sPlainStoreInit : Stmt := inClass (top 13) 0
theorem scPlainStoreInit : FnScope ["self"] ["self"] (defScope sPlainStoreInit) := ⟨rfl, rfl, rfl, by decide +kernel, rfl, by decide +kernel, by decide +kernel⟩
def gPInit (CP : Addr) : List U → MM → UK → Prop := fun us M Q => ∃ (ks : Nat), us = [.m ks] ∧ M[ks]? = some (.ins CP []) ∧ Q (.p .non) ((M ++ [lw (List.replicate 8 (.one "none"))]).set ks (.ins CP [("held", .m M.length)]))
theorem ok_pinitU {CP : Addr} {f : Addr} {fd : FuncData} (F : Fun K "__init__" "PlainStore.__init__" sPlainStoreInit f fd) (TP : TxP K CP) (GReg : GInt mg "REGISTERS" 8) : FnOk P w K mg base CX0 1 f fd ["self"] (spU (gPInit CP)) := by
  refine F.zU scPlainStoreInit (fun us M Qu h => ?_) (fun cdv A outer s H E hr => ?_)
  · obtain ⟨_, rfl, _⟩ := h
    rfl
  refine ⟨_, (qss_one (qs_fld (qv 0) (qe_op op_rep (qe_lst (qa_c qe_str qa_nil)) (qe_gint GReg rfl)) rfl)), _, (cs_fld (ce_var 0) (ce_repNew (ce_lst (ca_cons (ce_c (.str _)) ca_nil)) (ce_c (.int _)))), fun us M Qu h => ?_⟩
  obtain ⟨ks, rfl, em, q⟩ := h
  walk_at "v"
  refine repN_at (by decide) (by decide) (by decide) ?_
  refine fldPut_at TP.c TP.na (fs := []) ?_ (by decide) q
  rw [List.getElem?_append_left (List.getElem?_eq_some_iff.mp em).1]
  exact em
/-- a worth put into a register -/
def gPPut (CP : Addr) : List U → MM → UK → Prop := fun us M Q => ∃ (ks kh : Nat) (ws : List Wt) (r : Nat) (x : Wt), us = [.m ks, .p (.int (r : Int)), .p (tW x)] ∧ Sto CP M ks kh ws ∧ r < 8 ∧ Q (.p .non) (M.set kh (lw (ws.set r x)))
def gPSame (CP : Addr) : List U → MM → UK → Prop := fun us M Q => ∃ (ks kh : Nat) (ws : List Wt) (q p : Nat) (x y : Wt), us = [.m ks, .p (.int (q : Int)), .p (.int (p : Int))] ∧ Sto CP M ks kh ws ∧ ws[q]? = some x ∧ ws[p]? = some y ∧ Q (.p (.bl (decide (x = y)))) M
def gPKind (CP : Addr) : List U → MM → UK → Prop := fun us M Q => ∃ (ks kh : Nat) (ws : List Wt) (q : Nat) (x : Wt), us = [.m ks, .p (.int (q : Int))] ∧ Sto CP M ks kh ws ∧ ws[q]? = some x ∧ Q (.p (.str (kindW x))) M
def gPTold (CP : Addr) : List U → MM → UK → Prop := fun us M Q => ∃ (ks kh : Nat) (ws : List Wt) (q : Nat) (x : Wt), us = [.m ks, .p (.int (q : Int))] ∧ Sto CP M ks kh ws ∧ ws[q]? = some x ∧ Q (.p (tW x)) M
abbrev sPlainStoreNumber : Stmt := inClass (top 13) 2
theorem scPlainStoreNumber : FnScope ["self", "r", "n"] ["self", "r", "n"] (defScope sPlainStoreNumber) := ⟨rfl, rfl, rfl, by decide +kernel, rfl, by decide +kernel, by decide +kernel⟩
theorem ok_pnumberU {CP : Addr} {f : Addr} {fd : FuncData} (F : Fun K "number" "PlainStore.number" sPlainStoreNumber f fd) (N : Nms mg) (TP : TxP K CP) : FnOk P w K mg base CX0 1 f fd ["self", "r", "n"] (spU (gPPut CP)) := by
  refine F.zU scPlainStoreNumber (fun us M Qu h => ?_) (fun cdv A outer s H E hr => ?_)
  · obtain ⟨_, _, _, _, _, rfl, _⟩ := h
    rfl
  refine ⟨_, (qss_one (qs_asg (qv 2) (qg_sub (qe_fld (qv 0) rfl) (qv 1) set_list))), _, (cs_asg (ce_var 2) (cg_sub (ce_fld (ce_var 0)) (ce_var 1))), fun us M Qu h => ?_⟩
  obtain ⟨ks, kh, ws, r, x, rfl, S, hr8, q⟩ := h
  have hrl : r < ws.length := by rw [S.n]; exact hr8
  walk_at "v"
  refine held_at TP S ?_
  walk_at "v"
  exact wput_at S.h hrl q
abbrev sPlainStoreSame : Stmt := inClass (top 13) 17
theorem scPlainStoreSame : FnScope ["self", "q", "p"] ["self", "q", "p"] (defScope sPlainStoreSame) := ⟨rfl, rfl, rfl, by decide +kernel, rfl, by decide +kernel, by decide +kernel⟩
theorem ok_psameU {CP : Addr} {f : Addr} {fd : FuncData} (F : Fun K "same" "PlainStore.same" sPlainStoreSame f fd) (N : Nms mg) (TP : TxP K CP) : FnOk P w K mg base CX0 1 f fd ["self", "q", "p"] (spU (gPSame CP)) := by
  refine F.zU scPlainStoreSame (fun us M Qu h => ?_) (fun cdv A outer s H E hr => ?_)
  · obtain ⟨_, _, _, _, _, _, _, rfl, _⟩ := h
    rfl
  refine ⟨_, (qss_one (qs_ret (qe_cmpR (op_eqW (K := K) rfl hr.units) (qe_ix (ix_listK (K := K) rfl) (qe_fld (qv 0) rfl) (qv 1) (fun _ _ => rfl)) (qe_ix (ix_listK (K := K) rfl) (qe_fld (qv 0) rfl) (qv 2) (fun _ _ => rfl)) (nomark _)))), _, (cs_ret (ce_op opl_eqW (ce_ixL (ce_fld (ce_var 0)) (ce_var 1)) (ce_ixL (ce_fld (ce_var 0)) (ce_var 2)))), fun us M Qu h => ?_⟩
  obtain ⟨ks, kh, ws, q, p, x, y, rfl, S, hx, hy, qq⟩ := h
  walk_at "v"
  refine held_at TP S ?_
  walk_at "v"
  refine wix_at S.h hx ?_
  refine held_at TP S ?_
  walk_at "v"
  refine wix_at S.h hy ?_
  walk_at "v"
  refine eqW_at ?_
  walk_at "v"
  exact qq
abbrev sPlainStoreKind : Stmt := inClass (top 13) 18
theorem scPlainStoreKind : FnScope ["self", "q"] ["self", "q"] (defScope sPlainStoreKind) := ⟨rfl, rfl, rfl, by decide +kernel, rfl, by decide +kernel, by decide +kernel⟩
theorem ok_pkindU {CP : Addr} {f : Addr} {fd : FuncData} (F : Fun K "kind" "PlainStore.kind" sPlainStoreKind f fd) (N : Nms mg) (TP : TxP K CP) (DKindOf : Def P w K mg base "kind_of" 1 ["worth"] (spP gKindOf)) : FnOk P w K mg base CX0 2 f fd ["self", "q"] (spU (gPKind CP)) := by
  refine F.zU scPlainStoreKind (fun us M Qu h => ?_) (fun cdv A outer s H E hr => ?_)
  · obtain ⟨_, _, _, _, _, rfl, _⟩ := h
    rfl
  refine ⟨_, (qss_one (qs_ret (qe_def DKindOf (hr.mono (by first | decide | exact Nat.le_refl _)) (qa_c (qe_ix (ix_listK (K := K) rfl) (qe_fld (qv 0) rfl) (qv 1) (fun _ _ => rfl)) qa_nil)))), _, (cs_ret (ce_callP (ca_cons (ce_ixL (ce_fld (ce_var 0)) (ce_var 1)) ca_nil))), fun us M Qu h => ?_⟩
  obtain ⟨ks, kh, ws, q, x, rfl, S, hx, qq⟩ := h
  walk_at "v"
  refine held_at TP S ?_
  walk_at "v"
  refine wix_at S.h hx ?_
  walk_at "v"
  refine ⟨x, rfl, ?_⟩
  walk_at "v"
  exact qq
abbrev sPlainStoreTold : Stmt := inClass (top 13) 19
theorem scPlainStoreTold : FnScope ["self", "q", "worth"] ["self", "q"] (defScope sPlainStoreTold) := ⟨rfl, rfl, rfl, by decide +kernel, rfl, by decide +kernel, by decide +kernel⟩
theorem ok_ptoldU {CP : Addr} {f : Addr} {fd : FuncData} (F : Fun K "told" "PlainStore.told" sPlainStoreTold f fd) (N : Nms mg) (TP : TxP K CP) (DKindOf : Def P w K mg base "kind_of" 1 ["worth"] (spP gKindOf)) : FnOk P w K mg base CX0 2 f fd ["self", "q"] (spU (gPTold CP)) := by
  refine F.zU scPlainStoreTold (fun us M Qu h => ?_) (fun cdv A outer s H E hr => ?_)
  · obtain ⟨_, _, _, _, _, rfl, _⟩ := h
    rfl
  refine ⟨_, (qss_cons (qs_set (i := 2) scPlainStoreTold.nd rfl (Or.inl rfl) (qe_ix (ix_listK (K := K) rfl) (qe_fld (qv 0) rfl) (qv 1) (fun _ _ => rfl)))
    (qss_one (qs_ret (qe_ifExp (qt_cmpR op_eq (qe_def DKindOf (hr.mono (by first | decide | exact Nat.le_refl _)) (qa_c (qv 2) qa_nil)) qe_str (nomark _)) qe_str (qv 2))))), _, (cs_seq (cs_asg (ce_ixL (ce_fld (ce_var 0)) (ce_var 1)) (cg_name 2))
      (cs_ret (ce_if (ct_test (ce_op opl_eq (ce_callP (ca_cons (ce_var 2) ca_nil)) (ce_c (.str _)))) (ce_c (.str _)) (ce_var 2)))), fun us M Qu h => ?_⟩
  obtain ⟨ks, kh, ws, q, x, rfl, S, hx, qq⟩ := h
  walk_at "v"
  refine held_at TP S ?_
  walk_at "v"
  refine wix_at S.h hx ?_
  walk_at "v"
  refine ⟨x, rfl, ?_⟩
  walk_at "v"
  refine ite_no (by cases x <;> (dsimp only [kindW]; decide)) ?_
  walk_at "v"
  exact qq

/-! ### deeds of a plain store: numbers over one another -/
inductive DeedDo (ws : List Wt) : T → List Wt → Prop
  | num (r : Nat) (n : Int) (hr : r < 8) : DeedDo ws (.tup [.str "number", .int (r : Int), .int n]) (ws.set r (.num n))
  | over (r q p : Nat) (a b : Int) (hr : r < 8) (hq : ws[q]? = some (.num a)) (hp : ws[p]? = some (.num b)) (hb : b ≠ 0) (hd : Builtin.divisionGoesByPylong a b = false) : DeedDo ws (.tup [.str "over", .int (r : Int), .int (q : Int), .int (p : Int)]) (ws.set r (.num (a.fdiv b)))
  | rest (r q p : Nat) (a b : Int) (hr : r < 8) (hq : ws[q]? = some (.num a)) (hp : ws[p]? = some (.num b)) (hb : b ≠ 0) : DeedDo ws (.tup [.str "rest", .int (r : Int), .int (q : Int), .int (p : Int)]) (ws.set r (.num (a.fmod b)))
inductive DeedAsk (ws : List Wt) : T → T → Prop
  | kind (q : Nat) (x : Wt) (hq : ws[q]? = some x) : DeedAsk ws (.tup [.str "kind", .int (q : Int)]) (.str (kindW x))
  | told (q : Nat) (x : Wt) (hq : ws[q]? = some x) : DeedAsk ws (.tup [.str "told", .int (q : Int)]) (tW x)
  | same (q p : Nat) (x y : Wt) (hq : ws[q]? = some x) (hp : ws[p]? = some y) : DeedAsk ws (.tup [.str "same", .int (q : Int), .int (p : Int)]) (.bl (decide (x = y)))
inductive DeedNo (ws : List Wt) : T → Str → Prop
  | over (r q p : Nat) (a : Int) (hq : ws[q]? = some (.num a)) (hp : ws[p]? = some (.num 0)) : DeedNo ws (.tup [.str "over", .int (r : Int), .int (q : Int), .int (p : Int)]) "Nought"
  | rest (r q p : Nat) (a : Int) (hq : ws[q]? = some (.num a)) (hp : ws[p]? = some (.num 0)) : DeedNo ws (.tup [.str "rest", .int (r : Int), .int (q : Int), .int (p : Int)]) "Nought"
local macro_rules | `(tactic| walk_at "vx") => `(tactic| simp only [uDropX, uRetX, uSetX, uRaise, uTry, uCallX, uMethX, endX])
local macro_rules | `(tactic| walk_at "pk") => `(tactic| (walk_at "v"; repeat ((first | walk_at "vx" | refine ite_no (by decide) ?_ | refine ite_yes rfl ?_); walk_at "v")))
theorem mS {CP : Addr} {M : MM} {ks kh : Nat} {ws : List Wt} {m : Str} {R : Prop} (S : Sto CP M ks kh ws) (hm : (m == ("held" : Str)) = false) (q : R) : MethS CP m (.m ks) M R := meth_at S.s (by rw [List.lookup_cons, hm]; rfl) q
abbrev MD (P : Program) (w : World) (K : PySem.W.Frag) (mg : Str → Option Value) (base : Heap) (CP : Addr) (m : Str) (k : Nat) (ps : List Str) (G : List U → MM → UK → Prop) : Prop := MDef P w K mg base CP m k ("self" :: ps) (spU G)
abbrev MX (P : Program) (w : World) (K : PySem.W.Frag) (mg : Str → Option Value) (base : Heap) (CP : Addr) (m : Str) (k : Nat) (ps : List Str) (G : List U → MM → UK → UX → Prop) : Prop := MDefX P w K mg base CP m k ("self" :: ps) (spX mg G)
theorem op_fdivN {X : Cx} : OpR X (binaryOp .FloorDiv) (rI (fun i j => j ≠ 0 ∧ Builtin.divisionGoesByPylong i j = false) fun i j => .int (i.fdiv j)) := opI fun _ _ _ _ _ _ _ hc q => floordiv_int hc.1 q (.inl hc.2)
abbrev sNeedNumbers : Stmt := top 6
theorem scNeedNumbers : FnScope ["store", "q", "p"] ["store", "q", "p"] (defScope sNeedNumbers) := ⟨rfl, rfl, rfl, by decide +kernel, rfl, by decide +kernel, by decide +kernel⟩
def gNeed (CP : Addr) : List U → MM → UK → Prop := fun us M Q => ∃ (ks kh : Nat) (ws : List Wt) (q p : Nat) (a b : Int), us = [.m ks, .p (.int (q : Int)), .p (.int (p : Int))] ∧ Sto CP M ks kh ws ∧ ws[q]? = some (.num a) ∧ ws[p]? = some (.num b) ∧ Q (.p .non) M
theorem ok_needU {CP : Addr} {f : Addr} {fd : FuncData} (F : Fun K "need_numbers" "need_numbers" sNeedNumbers f fd) (N : Nms mg) (TPlainStore : Cls K CP) (MPlainStoreKind : MD P w K mg base CP "kind" 2 ["q"] (gPKind CP)) : FnOk P w K mg base CX0 3 f fd ["store", "q", "p"] (spU (gNeed CP)) := by
  refine F.zU scNeedNumbers (fun us M Qu h => ?_) (fun cdv A outer s H E hr => ?_)
  · obtain ⟨_, _, _, _, _, _, _, rfl, _⟩ := h
    rfl
  refine ⟨_, (qss_cons (qs_if (qt_cmpR op_ne (qe_mdef MPlainStoreKind TPlainStore (qv 0) (hr.mono (by first | decide | exact Nat.le_refl _)) (qa_c (qv 1) qa_nil)) qe_str (nomark _))
      (qss_one qs_raise)
      qss_nil)
    (qss_one (qs_if (qt_cmpR op_ne (qe_mdef MPlainStoreKind TPlainStore (qv 0) (hr.mono (by first | decide | exact Nat.le_refl _)) (qa_c (qv 2) qa_nil)) qe_str (nomark _))
      (qss_one qs_raise)
      qss_nil))), _, (cs_seq (cs_if (ct_test (ce_op opl_ne (ce_meth (ce_var 0) (ca_cons (ce_var 1) ca_nil)) (ce_c (.str _))))
      cs_never
      cs_next)
      (cs_if (ct_test (ce_op opl_ne (ce_meth (ce_var 0) (ca_cons (ce_var 2) ca_nil)) (ce_c (.str _))))
      cs_never
      cs_next)), fun us M Qu h => ?_⟩
  obtain ⟨ks, kh, ws, q, p, a, b, rfl, S, hq, hp, k⟩ := h
  walk_at "pk"
  refine mS S (by decide) ?_
  walk_at "pk"
  refine ⟨ks, kh, ws, q, _, rfl, S, hq, ?_⟩
  simp only [kindW]
  walk_at "pk"
  refine mS S (by decide) ?_
  walk_at "pk"
  refine ⟨ks, kh, ws, p, _, rfl, S, hp, ?_⟩
  simp only [kindW]
  walk_at "pk"
  exact k
abbrev sNeedDivisor : Stmt := top 7
theorem scNeedDivisor : FnScope ["store", "q", "p"] ["store", "q", "p"] (defScope sNeedDivisor) := ⟨rfl, rfl, rfl, by decide +kernel, rfl, by decide +kernel, by decide +kernel⟩
def gNeedD (CP : Addr) : List U → MM → UK → UX → Prop := fun us M Q X => ∃ (ks kh : Nat) (ws : List Wt) (q p : Nat) (a b : Int), us = [.m ks, .p (.int (q : Int)), .p (.int (p : Int))] ∧ Sto CP M ks kh ws ∧ ws[q]? = some (.num a) ∧ ws[p]? = some (.num b) ∧ ((b ≠ 0 ∧ Q (.p .non) M) ∨ (b = 0 ∧ X "Nought" M))
theorem ok_needDX {CP CN : Addr} {f : Addr} {fd : FuncData} (F : Fun K "need_divisor" "need_divisor" sNeedDivisor f fd) (N : Nms mg) (TPlainStore : Cls K CP) (ONought : ExcC K mg "Nought" CN) (DNeedNumbers : Def P w K mg base "need_numbers" 3 ["store", "q", "p"] (spU (gNeed CP))) (MPlainStoreTold : MD P w K mg base CP "told" 2 ["q"] (gPTold CP)) : FnOk P w K mg base (CXe P w) 4 f fd ["store", "q", "p"] (spX mg (gNeedD CP)) := by
  refine F.zX scNeedDivisor (fun us M Qu Xu h => ?_) (fun cdv A outer s H E hr => ?_)
  · obtain ⟨_, _, _, _, _, _, _, rfl, _⟩ := h
    rfl
  refine ⟨_, (qxs_cons (qx_of (qs_expr (qe_def DNeedNumbers (hr.mono (by first | decide | exact Nat.le_refl _)) (qa_c (qv 0) (qa_c (qv 1) (qa_c (qv 2) qa_nil))))))
    (qxs_one (qx_if (qt_cmpR op_eq (qe_mdef MPlainStoreTold TPlainStore (qv 0) (hr.mono (by first | decide | exact Nat.le_refl _)) (qa_c (qv 2) qa_nil)) qe_int (nomark _))
      (qxs_one (qx_raise rfl ONought (qa_c qe_str qa_nil)))
      qxs_nil))), _, (cs_seq (cs_drop (ce_callU (ca_cons (ce_var 0) (ca_cons (ce_var 1) (ca_cons (ce_var 2) ca_nil)))))
      (cs_if (ct_test (ce_op opl_eq (ce_meth (ce_var 0) (ca_cons (ce_var 2) ca_nil)) (ce_c (.int _))))
      (cs_raise (ca_cons (ce_c (.str _)) ca_nil))
      cs_next)), fun us M Qu Xu h => ?_⟩
  obtain ⟨ks, kh, ws, q, p, a, b, rfl, S, hq, hp, k⟩ := h
  walk_at "pk"
  refine ⟨ks, kh, ws, q, p, a, b, rfl, S, hq, hp, ?_⟩
  walk_at "pk"
  refine mS S (by decide) ?_
  walk_at "pk"
  refine ⟨ks, kh, ws, p, _, rfl, S, hp, ?_⟩
  simp only [tW]
  walk_at "pk"
  rcases k with ⟨hb, k⟩ | ⟨hb, k⟩
  · refine ite_no (by simpa using hb) ?_
    walk_at "pk"
    exact k
  · subst hb
    refine ite_yes rfl ?_
    walk_at "pk"
    exact ⟨by decide, _, _, rfl, rfl, k⟩
abbrev sPlainStoreOver : Stmt := inClass (top 13) 9
theorem scPlainStoreOver : FnScope ["self", "r", "q", "p"] ["self", "r", "q", "p"] (defScope sPlainStoreOver) := ⟨rfl, rfl, rfl, by decide +kernel, rfl, by decide +kernel, by decide +kernel⟩
def gPOver (CP : Addr) : List U → MM → UK → UX → Prop := fun us M Q X => ∃ (ks kh : Nat) (ws : List Wt) (r q p : Nat) (a b : Int), us = [.m ks, .p (.int (r : Int)), .p (.int (q : Int)), .p (.int (p : Int))] ∧ Sto CP M ks kh ws ∧ ws[q]? = some (.num a) ∧ ws[p]? = some (.num b) ∧
  ((b ≠ 0 ∧ r < 8 ∧ Builtin.divisionGoesByPylong a b = false ∧ Q (.p .non) (M.set kh (lw (ws.set r (.num (a.fdiv b)))))) ∨ (b = 0 ∧ X "Nought" M))
theorem ok_poverX {CP : Addr} {f : Addr} {fd : FuncData} (F : Fun K "over" "PlainStore.over" sPlainStoreOver f fd) (N : Nms mg) (TP : TxP K CP) (DNeedDivisor : DefX P w K mg base "need_divisor" 4 ["store", "q", "p"] (spX mg (gNeedD CP))) : FnOk P w K mg base (CXe P w) 5 f fd ["self", "r", "q", "p"] (spX mg (gPOver CP)) := by
  refine F.zX scPlainStoreOver (fun us M Qu Xu h => ?_) (fun cdv A outer s H E hr => ?_)
  · obtain ⟨_, _, _, _, _, _, _, _, rfl, _⟩ := h
    rfl
  refine ⟨_, (qxs_cons (qx_expr (qx_call DNeedDivisor (hr.mono (by first | decide | exact Nat.le_refl _)) (qa_c (qv 0) (qa_c (qv 2) (qa_c (qv 3) qa_nil)))))
    (qxs_one (qx_of (qs_asg (qe_op op_fdivN (qe_ix (ix_listK (K := K) rfl) (qe_fld (qv 0) rfl) (qv 2) (fun _ _ => rfl)) (qe_ix (ix_listK (K := K) rfl) (qe_fld (qv 0) rfl) (qv 3) (fun _ _ => rfl))) (qg_sub (qe_fld (qv 0) rfl) (qv 1) set_list))))), _, (cs_seq (cs_dropX (cx_call (ca_cons (ce_var 0) (ca_cons (ce_var 2) (ca_cons (ce_var 3) ca_nil)))))
      (cs_asg (ce_op (opl_I fun _ _ => .int _) (ce_ixL (ce_fld (ce_var 0)) (ce_var 2)) (ce_ixL (ce_fld (ce_var 0)) (ce_var 3))) (cg_sub (ce_fld (ce_var 0)) (ce_var 1)))), fun us M Qu Xu h => ?_⟩
  obtain ⟨ks, kh, ws, r, q, p, a, b, rfl, S, hq, hp, k⟩ := h
  walk_at "pk"
  refine ⟨ks, kh, ws, q, p, a, b, rfl, S, hq, hp, ?_⟩
  rcases k with ⟨hb, hr8, hd, k⟩ | ⟨hb, k⟩
  · refine .inl ⟨hb, ?_⟩
    have hrl : r < ws.length := by rw [S.n]; exact hr8
    walk_at "pk"
    refine held_at TP S ?_
    walk_at "pk"
    refine wix_at S.h hq ?_
    refine held_at TP S ?_
    walk_at "pk"
    refine wix_at S.h hp ?_
    simp only [tW]
    walk_at "pk"
    refine ⟨⟨hb, hd⟩, ?_⟩
    walk_at "pk"
    refine held_at TP S ?_
    walk_at "pk"
    exact wput_at (x := .num (a.fdiv b)) S.h hrl k
  · exact .inr ⟨hb, _, _, rfl, rfl, k⟩
abbrev sPlainStoreRest : Stmt := inClass (top 13) 10
theorem scPlainStoreRest : FnScope ["self", "r", "q", "p"] ["self", "r", "q", "p"] (defScope sPlainStoreRest) := ⟨rfl, rfl, rfl, by decide +kernel, rfl, by decide +kernel, by decide +kernel⟩
def gPRest (CP : Addr) : List U → MM → UK → UX → Prop := fun us M Q X => ∃ (ks kh : Nat) (ws : List Wt) (r q p : Nat) (a b : Int), us = [.m ks, .p (.int (r : Int)), .p (.int (q : Int)), .p (.int (p : Int))] ∧ Sto CP M ks kh ws ∧ ws[q]? = some (.num a) ∧ ws[p]? = some (.num b) ∧
  ((b ≠ 0 ∧ r < 8 ∧ Q (.p .non) (M.set kh (lw (ws.set r (.num (a.fmod b)))))) ∨ (b = 0 ∧ X "Nought" M))
theorem ok_prestX {CP : Addr} {f : Addr} {fd : FuncData} (F : Fun K "rest" "PlainStore.rest" sPlainStoreRest f fd) (N : Nms mg) (TP : TxP K CP) (DNeedDivisor : DefX P w K mg base "need_divisor" 4 ["store", "q", "p"] (spX mg (gNeedD CP))) : FnOk P w K mg base (CXe P w) 5 f fd ["self", "r", "q", "p"] (spX mg (gPRest CP)) := by
  refine F.zX scPlainStoreRest (fun us M Qu Xu h => ?_) (fun cdv A outer s H E hr => ?_)
  · obtain ⟨_, _, _, _, _, _, _, _, rfl, _⟩ := h
    rfl
  refine ⟨_, (qxs_cons (qx_expr (qx_call DNeedDivisor (hr.mono (by first | decide | exact Nat.le_refl _)) (qa_c (qv 0) (qa_c (qv 2) (qa_c (qv 3) qa_nil)))))
    (qxs_one (qx_of (qs_asg (qe_op op_modN (qe_ix (ix_listK (K := K) rfl) (qe_fld (qv 0) rfl) (qv 2) (fun _ _ => rfl)) (qe_ix (ix_listK (K := K) rfl) (qe_fld (qv 0) rfl) (qv 3) (fun _ _ => rfl))) (qg_sub (qe_fld (qv 0) rfl) (qv 1) set_list))))), _, (cs_seq (cs_dropX (cx_call (ca_cons (ce_var 0) (ca_cons (ce_var 2) (ca_cons (ce_var 3) ca_nil)))))
      (cs_asg (ce_op (opl_I fun _ _ => .int _) (ce_ixL (ce_fld (ce_var 0)) (ce_var 2)) (ce_ixL (ce_fld (ce_var 0)) (ce_var 3))) (cg_sub (ce_fld (ce_var 0)) (ce_var 1)))), fun us M Qu Xu h => ?_⟩
  obtain ⟨ks, kh, ws, r, q, p, a, b, rfl, S, hq, hp, k⟩ := h
  walk_at "pk"
  refine ⟨ks, kh, ws, q, p, a, b, rfl, S, hq, hp, ?_⟩
  rcases k with ⟨hb, hr8, k⟩ | ⟨hb, k⟩
  · refine .inl ⟨hb, ?_⟩
    have hrl : r < ws.length := by rw [S.n]; exact hr8
    walk_at "pk"
    refine held_at TP S ?_
    walk_at "pk"
    refine wix_at S.h hq ?_
    refine held_at TP S ?_
    walk_at "pk"
    refine wix_at S.h hp ?_
    simp only [tW]
    walk_at "pk"
    refine ⟨hb, ?_⟩
    walk_at "pk"
    refine held_at TP S ?_
    walk_at "pk"
    exact wput_at (x := .num (a.fmod b)) S.h hrl k
  · exact .inr ⟨hb, _, _, rfl, rfl, k⟩
abbrev sDeedDone : Stmt := top 18
theorem scDeedDone : FnScope ["store", "deed", "word"] ["store", "deed"] (defScope sDeedDone) := ⟨rfl, rfl, rfl, by decide +kernel, rfl, by decide +kernel, by decide +kernel⟩
def gDeedDone (CP : Addr) : List U → MM → UK → UX → Prop := fun us M Q X => ∃ (ks kh : Nat) (ws : List Wt) (d : T), us = [.m ks, .p d] ∧ Sto CP M ks kh ws ∧ ((∃ ws', DeedDo ws d ws' ∧ Q (.p .non) (M.set kh (lw ws'))) ∨ (∃ ans, DeedAsk ws d ans ∧ Q (.p ans) M) ∨ ∃ nm, DeedNo ws d nm ∧ X nm M)
theorem ok_deed_doneX {CP : Addr} {f : Addr} {fd : FuncData} (F : Fun K "_law_deed_done" "_law_deed_done" sDeedDone f fd) (N : Nms mg) (TPlainStore : Cls K CP)
    (MPlainStoreNumber : MD P w K mg base CP "number" 1 ["r", "n"] (gPPut CP)) (MPlainStoreSign : MD P w K mg base CP "sign" 1 ["r", "n"] gNo) (MPlainStoreOne : MD P w K mg base CP "one" 1 ["r", "n"] gNo) (MPlainStoreCopy : MD P w K mg base CP "copy" 1 ["r", "n"] gNo)
    (MPlainStorePlus : MD P w K mg base CP "plus" 1 ["r", "q", "p"] gNo) (MPlainStoreLess : MD P w K mg base CP "less" 1 ["r", "q", "p"] gNo) (MPlainStoreTimes : MD P w K mg base CP "times" 1 ["r", "q", "p"] gNo) (MPlainStoreOver : MX P w K mg base CP "over" 5 ["r", "q", "p"] (gPOver CP)) (MPlainStoreRest : MX P w K mg base CP "rest" 5 ["r", "q", "p"] (gPRest CP)) (MPlainStorePair : MD P w K mg base CP "pair" 1 ["r", "q", "p"] gNo)
    (MPlainStoreFirst : MD P w K mg base CP "first" 1 ["r", "n"] gNo) (MPlainStoreSecond : MD P w K mg base CP "second" 1 ["r", "n"] gNo) (MPlainStoreSetFirst : MD P w K mg base CP "set_first" 1 ["q", "p"] gNo) (MPlainStoreSetSecond : MD P w K mg base CP "set_second" 1 ["q", "p"] gNo) (MPlainStoreBelow : MD P w K mg base CP "below" 1 ["q", "p"] gNo)
    (MPlainStoreSame : MD P w K mg base CP "same" 1 ["q", "p"] (gPSame CP)) (MPlainStoreKind : MD P w K mg base CP "kind" 2 ["q"] (gPKind CP)) (MPlainStoreTold : MD P w K mg base CP "told" 2 ["q"] (gPTold CP)) : FnOk P w K mg base (CXe P w) 6 f fd ["store", "deed"] (spX mg (gDeedDone CP)) := by
  refine F.zX scDeedDone (fun us M Qu Xu h => ?_) (fun cdv A outer s H E hr => ?_)
  · obtain ⟨_, _, _, _, rfl, _⟩ := h
    rfl
  refine ⟨_, (qxs_cons (qx_of (qs_set (i := 2) scDeedDone.nd rfl (Or.inl rfl) (qe_ix (ix_tupK (K := K) rfl) (qv 1) qe_int (fun _ _ => rfl))))
    (qxs_cons (qx_of (qs_if (qt_cmpR op_eq (qv 2) qe_str (nomark _))
      (qss_one (qs_ret (qe_mdef MPlainStoreNumber TPlainStore (qv 0) (hr.mono (by first | decide | exact Nat.le_refl _)) (qa_c (qe_ix (ix_tupK (K := K) rfl) (qv 1) qe_int (fun _ _ => rfl)) (qa_c (qe_ix (ix_tupK (K := K) rfl) (qv 1) qe_int (fun _ _ => rfl)) qa_nil)))))
      qss_nil))
    (qxs_cons (qx_of (qs_if (qt_cmpR op_eq (qv 2) qe_str (nomark _))
      (qss_one (qs_ret (qe_mdef MPlainStoreSign TPlainStore (qv 0) (hr.mono (by first | decide | exact Nat.le_refl _)) (qa_c (qe_ix (ix_tupK (K := K) rfl) (qv 1) qe_int (fun _ _ => rfl)) (qa_c (qe_ix (ix_tupK (K := K) rfl) (qv 1) qe_int (fun _ _ => rfl)) qa_nil)))))
      qss_nil))
    (qxs_cons (qx_of (qs_if (qt_cmpR op_eq (qv 2) qe_str (nomark _))
      (qss_one (qs_ret (qe_mdef MPlainStoreOne TPlainStore (qv 0) (hr.mono (by first | decide | exact Nat.le_refl _)) (qa_c (qe_ix (ix_tupK (K := K) rfl) (qv 1) qe_int (fun _ _ => rfl)) (qa_c (qe_ix (ix_tupK (K := K) rfl) (qv 1) qe_int (fun _ _ => rfl)) qa_nil)))))
      qss_nil))
    (qxs_cons (qx_of (qs_if (qt_cmpR op_eq (qv 2) qe_str (nomark _))
      (qss_one (qs_ret (qe_mdef MPlainStoreCopy TPlainStore (qv 0) (hr.mono (by first | decide | exact Nat.le_refl _)) (qa_c (qe_ix (ix_tupK (K := K) rfl) (qv 1) qe_int (fun _ _ => rfl)) (qa_c (qe_ix (ix_tupK (K := K) rfl) (qv 1) qe_int (fun _ _ => rfl)) qa_nil)))))
      qss_nil))
    (qxs_cons (qx_of (qs_if (qt_cmpR op_eq (qv 2) qe_str (nomark _))
      (qss_one (qs_ret (qe_mdef MPlainStorePlus TPlainStore (qv 0) (hr.mono (by first | decide | exact Nat.le_refl _)) (qa_c (qe_ix (ix_tupK (K := K) rfl) (qv 1) qe_int (fun _ _ => rfl)) (qa_c (qe_ix (ix_tupK (K := K) rfl) (qv 1) qe_int (fun _ _ => rfl)) (qa_c (qe_ix (ix_tupK (K := K) rfl) (qv 1) qe_int (fun _ _ => rfl)) qa_nil))))))
      qss_nil))
    (qxs_cons (qx_of (qs_if (qt_cmpR op_eq (qv 2) qe_str (nomark _))
      (qss_one (qs_ret (qe_mdef MPlainStoreLess TPlainStore (qv 0) (hr.mono (by first | decide | exact Nat.le_refl _)) (qa_c (qe_ix (ix_tupK (K := K) rfl) (qv 1) qe_int (fun _ _ => rfl)) (qa_c (qe_ix (ix_tupK (K := K) rfl) (qv 1) qe_int (fun _ _ => rfl)) (qa_c (qe_ix (ix_tupK (K := K) rfl) (qv 1) qe_int (fun _ _ => rfl)) qa_nil))))))
      qss_nil))
    (qxs_cons (qx_of (qs_if (qt_cmpR op_eq (qv 2) qe_str (nomark _))
      (qss_one (qs_ret (qe_mdef MPlainStoreTimes TPlainStore (qv 0) (hr.mono (by first | decide | exact Nat.le_refl _)) (qa_c (qe_ix (ix_tupK (K := K) rfl) (qv 1) qe_int (fun _ _ => rfl)) (qa_c (qe_ix (ix_tupK (K := K) rfl) (qv 1) qe_int (fun _ _ => rfl)) (qa_c (qe_ix (ix_tupK (K := K) rfl) (qv 1) qe_int (fun _ _ => rfl)) qa_nil))))))
      qss_nil))
    (qxs_cons (qx_if (qt_cmpR op_eq (qv 2) qe_str (nomark _))
      (qxs_one (qx_ret (qx_meth (qv 0) TPlainStore MPlainStoreOver (hr.mono (by first | decide | exact Nat.le_refl _)) (qa_c (qe_ix (ix_tupK (K := K) rfl) (qv 1) qe_int (fun _ _ => rfl)) (qa_c (qe_ix (ix_tupK (K := K) rfl) (qv 1) qe_int (fun _ _ => rfl)) (qa_c (qe_ix (ix_tupK (K := K) rfl) (qv 1) qe_int (fun _ _ => rfl)) qa_nil))))))
      qxs_nil)
    (qxs_cons (qx_if (qt_cmpR op_eq (qv 2) qe_str (nomark _))
      (qxs_one (qx_ret (qx_meth (qv 0) TPlainStore MPlainStoreRest (hr.mono (by first | decide | exact Nat.le_refl _)) (qa_c (qe_ix (ix_tupK (K := K) rfl) (qv 1) qe_int (fun _ _ => rfl)) (qa_c (qe_ix (ix_tupK (K := K) rfl) (qv 1) qe_int (fun _ _ => rfl)) (qa_c (qe_ix (ix_tupK (K := K) rfl) (qv 1) qe_int (fun _ _ => rfl)) qa_nil))))))
      qxs_nil)
    (qxs_cons (qx_of (qs_if (qt_cmpR op_eq (qv 2) qe_str (nomark _))
      (qss_one (qs_ret (qe_mdef MPlainStorePair TPlainStore (qv 0) (hr.mono (by first | decide | exact Nat.le_refl _)) (qa_c (qe_ix (ix_tupK (K := K) rfl) (qv 1) qe_int (fun _ _ => rfl)) (qa_c (qe_ix (ix_tupK (K := K) rfl) (qv 1) qe_int (fun _ _ => rfl)) (qa_c (qe_ix (ix_tupK (K := K) rfl) (qv 1) qe_int (fun _ _ => rfl)) qa_nil))))))
      qss_nil))
    (qxs_cons (qx_of (qs_if (qt_cmpR op_eq (qv 2) qe_str (nomark _))
      (qss_one (qs_ret (qe_mdef MPlainStoreFirst TPlainStore (qv 0) (hr.mono (by first | decide | exact Nat.le_refl _)) (qa_c (qe_ix (ix_tupK (K := K) rfl) (qv 1) qe_int (fun _ _ => rfl)) (qa_c (qe_ix (ix_tupK (K := K) rfl) (qv 1) qe_int (fun _ _ => rfl)) qa_nil)))))
      qss_nil))
    (qxs_cons (qx_of (qs_if (qt_cmpR op_eq (qv 2) qe_str (nomark _))
      (qss_one (qs_ret (qe_mdef MPlainStoreSecond TPlainStore (qv 0) (hr.mono (by first | decide | exact Nat.le_refl _)) (qa_c (qe_ix (ix_tupK (K := K) rfl) (qv 1) qe_int (fun _ _ => rfl)) (qa_c (qe_ix (ix_tupK (K := K) rfl) (qv 1) qe_int (fun _ _ => rfl)) qa_nil)))))
      qss_nil))
    (qxs_cons (qx_of (qs_if (qt_cmpR op_eq (qv 2) qe_str (nomark _))
      (qss_one (qs_ret (qe_mdef MPlainStoreSetFirst TPlainStore (qv 0) (hr.mono (by first | decide | exact Nat.le_refl _)) (qa_c (qe_ix (ix_tupK (K := K) rfl) (qv 1) qe_int (fun _ _ => rfl)) (qa_c (qe_ix (ix_tupK (K := K) rfl) (qv 1) qe_int (fun _ _ => rfl)) qa_nil)))))
      qss_nil))
    (qxs_cons (qx_of (qs_if (qt_cmpR op_eq (qv 2) qe_str (nomark _))
      (qss_one (qs_ret (qe_mdef MPlainStoreSetSecond TPlainStore (qv 0) (hr.mono (by first | decide | exact Nat.le_refl _)) (qa_c (qe_ix (ix_tupK (K := K) rfl) (qv 1) qe_int (fun _ _ => rfl)) (qa_c (qe_ix (ix_tupK (K := K) rfl) (qv 1) qe_int (fun _ _ => rfl)) qa_nil)))))
      qss_nil))
    (qxs_cons (qx_of (qs_if (qt_cmpR op_eq (qv 2) qe_str (nomark _))
      (qss_one (qs_ret (qe_mdef MPlainStoreBelow TPlainStore (qv 0) (hr.mono (by first | decide | exact Nat.le_refl _)) (qa_c (qe_ix (ix_tupK (K := K) rfl) (qv 1) qe_int (fun _ _ => rfl)) (qa_c (qe_ix (ix_tupK (K := K) rfl) (qv 1) qe_int (fun _ _ => rfl)) qa_nil)))))
      qss_nil))
    (qxs_cons (qx_of (qs_if (qt_cmpR op_eq (qv 2) qe_str (nomark _))
      (qss_one (qs_ret (qe_mdef MPlainStoreSame TPlainStore (qv 0) (hr.mono (by first | decide | exact Nat.le_refl _)) (qa_c (qe_ix (ix_tupK (K := K) rfl) (qv 1) qe_int (fun _ _ => rfl)) (qa_c (qe_ix (ix_tupK (K := K) rfl) (qv 1) qe_int (fun _ _ => rfl)) qa_nil)))))
      qss_nil))
    (qxs_one (qx_of (qs_ret (qe_ifExp (qt_cmpR op_eq (qv 2) qe_str (nomark _)) (qe_mdef MPlainStoreKind TPlainStore (qv 0) (hr.mono (by first | decide | exact Nat.le_refl _)) (qa_c (qe_ix (ix_tupK (K := K) rfl) (qv 1) qe_int (fun _ _ => rfl)) qa_nil)) (qe_mdef MPlainStoreTold TPlainStore (qv 0) (hr.mono (by first | decide | exact Nat.le_refl _)) (qa_c (qe_ix (ix_tupK (K := K) rfl) (qv 1) qe_int (fun _ _ => rfl)) qa_nil))))))))))))))))))))))), _, (cs_seq (cs_asg (ce_ixT (ce_var 1) (ce_c (.int _))) (cg_name 2))
      (cs_seq (cs_if (ct_test (ce_op opl_eq (ce_var 2) (ce_c (.str _))))
      (cs_ret (ce_meth (ce_var 0) (ca_cons (ce_ixT (ce_var 1) (ce_c (.int _))) (ca_cons (ce_ixT (ce_var 1) (ce_c (.int _))) ca_nil))))
      cs_next)
      (cs_seq (cs_if (ct_test (ce_op opl_eq (ce_var 2) (ce_c (.str _))))
      (cs_ret (ce_meth (ce_var 0) (ca_cons (ce_ixT (ce_var 1) (ce_c (.int _))) (ca_cons (ce_ixT (ce_var 1) (ce_c (.int _))) ca_nil))))
      cs_next)
      (cs_seq (cs_if (ct_test (ce_op opl_eq (ce_var 2) (ce_c (.str _))))
      (cs_ret (ce_meth (ce_var 0) (ca_cons (ce_ixT (ce_var 1) (ce_c (.int _))) (ca_cons (ce_ixT (ce_var 1) (ce_c (.int _))) ca_nil))))
      cs_next)
      (cs_seq (cs_if (ct_test (ce_op opl_eq (ce_var 2) (ce_c (.str _))))
      (cs_ret (ce_meth (ce_var 0) (ca_cons (ce_ixT (ce_var 1) (ce_c (.int _))) (ca_cons (ce_ixT (ce_var 1) (ce_c (.int _))) ca_nil))))
      cs_next)
      (cs_seq (cs_if (ct_test (ce_op opl_eq (ce_var 2) (ce_c (.str _))))
      (cs_ret (ce_meth (ce_var 0) (ca_cons (ce_ixT (ce_var 1) (ce_c (.int _))) (ca_cons (ce_ixT (ce_var 1) (ce_c (.int _))) (ca_cons (ce_ixT (ce_var 1) (ce_c (.int _))) ca_nil)))))
      cs_next)
      (cs_seq (cs_if (ct_test (ce_op opl_eq (ce_var 2) (ce_c (.str _))))
      (cs_ret (ce_meth (ce_var 0) (ca_cons (ce_ixT (ce_var 1) (ce_c (.int _))) (ca_cons (ce_ixT (ce_var 1) (ce_c (.int _))) (ca_cons (ce_ixT (ce_var 1) (ce_c (.int _))) ca_nil)))))
      cs_next)
      (cs_seq (cs_if (ct_test (ce_op opl_eq (ce_var 2) (ce_c (.str _))))
      (cs_ret (ce_meth (ce_var 0) (ca_cons (ce_ixT (ce_var 1) (ce_c (.int _))) (ca_cons (ce_ixT (ce_var 1) (ce_c (.int _))) (ca_cons (ce_ixT (ce_var 1) (ce_c (.int _))) ca_nil)))))
      cs_next)
      (cs_seq (cs_if (ct_test (ce_op opl_eq (ce_var 2) (ce_c (.str _))))
      (cs_retX (cx_meth (ce_var 0) (ca_cons (ce_ixT (ce_var 1) (ce_c (.int _))) (ca_cons (ce_ixT (ce_var 1) (ce_c (.int _))) (ca_cons (ce_ixT (ce_var 1) (ce_c (.int _))) ca_nil)))))
      cs_next)
      (cs_seq (cs_if (ct_test (ce_op opl_eq (ce_var 2) (ce_c (.str _))))
      (cs_retX (cx_meth (ce_var 0) (ca_cons (ce_ixT (ce_var 1) (ce_c (.int _))) (ca_cons (ce_ixT (ce_var 1) (ce_c (.int _))) (ca_cons (ce_ixT (ce_var 1) (ce_c (.int _))) ca_nil)))))
      cs_next)
      (cs_seq (cs_if (ct_test (ce_op opl_eq (ce_var 2) (ce_c (.str _))))
      (cs_ret (ce_meth (ce_var 0) (ca_cons (ce_ixT (ce_var 1) (ce_c (.int _))) (ca_cons (ce_ixT (ce_var 1) (ce_c (.int _))) (ca_cons (ce_ixT (ce_var 1) (ce_c (.int _))) ca_nil)))))
      cs_next)
      (cs_seq (cs_if (ct_test (ce_op opl_eq (ce_var 2) (ce_c (.str _))))
      (cs_ret (ce_meth (ce_var 0) (ca_cons (ce_ixT (ce_var 1) (ce_c (.int _))) (ca_cons (ce_ixT (ce_var 1) (ce_c (.int _))) ca_nil))))
      cs_next)
      (cs_seq (cs_if (ct_test (ce_op opl_eq (ce_var 2) (ce_c (.str _))))
      (cs_ret (ce_meth (ce_var 0) (ca_cons (ce_ixT (ce_var 1) (ce_c (.int _))) (ca_cons (ce_ixT (ce_var 1) (ce_c (.int _))) ca_nil))))
      cs_next)
      (cs_seq (cs_if (ct_test (ce_op opl_eq (ce_var 2) (ce_c (.str _))))
      (cs_ret (ce_meth (ce_var 0) (ca_cons (ce_ixT (ce_var 1) (ce_c (.int _))) (ca_cons (ce_ixT (ce_var 1) (ce_c (.int _))) ca_nil))))
      cs_next)
      (cs_seq (cs_if (ct_test (ce_op opl_eq (ce_var 2) (ce_c (.str _))))
      (cs_ret (ce_meth (ce_var 0) (ca_cons (ce_ixT (ce_var 1) (ce_c (.int _))) (ca_cons (ce_ixT (ce_var 1) (ce_c (.int _))) ca_nil))))
      cs_next)
      (cs_seq (cs_if (ct_test (ce_op opl_eq (ce_var 2) (ce_c (.str _))))
      (cs_ret (ce_meth (ce_var 0) (ca_cons (ce_ixT (ce_var 1) (ce_c (.int _))) (ca_cons (ce_ixT (ce_var 1) (ce_c (.int _))) ca_nil))))
      cs_next)
      (cs_seq (cs_if (ct_test (ce_op opl_eq (ce_var 2) (ce_c (.str _))))
      (cs_ret (ce_meth (ce_var 0) (ca_cons (ce_ixT (ce_var 1) (ce_c (.int _))) (ca_cons (ce_ixT (ce_var 1) (ce_c (.int _))) ca_nil))))
      cs_next)
      (cs_ret (ce_if (ct_test (ce_op opl_eq (ce_var 2) (ce_c (.str _)))) (ce_meth (ce_var 0) (ca_cons (ce_ixT (ce_var 1) (ce_c (.int _))) ca_nil)) (ce_meth (ce_var 0) (ca_cons (ce_ixT (ce_var 1) (ce_c (.int _))) ca_nil))))))))))))))))))))), fun us M Qu Xu h => ?_⟩
  obtain ⟨ks, kh, ws, d, rfl, S, h⟩ := h
  rcases h with ⟨ws', hd, q⟩ | ⟨ans, hd, q⟩ | ⟨nm, hd, q⟩
  · cases hd with
    | num r n hr =>
      walk_at "pk"
      refine mS S (by decide) ?_
      walk_at "pk"
      exact ⟨ks, kh, ws, r, .num n, rfl, S, hr, q⟩
    | over r qq p a b hr hq hp hb hd =>
      walk_at "pk"
      refine mS S (by decide) ?_
      walk_at "pk"
      exact ⟨ks, kh, ws, r, qq, p, a, b, rfl, S, hq, hp, .inl ⟨hb, hr, hd, q⟩⟩
    | rest r qq p a b hr hq hp hb =>
      walk_at "pk"
      refine mS S (by decide) ?_
      walk_at "pk"
      exact ⟨ks, kh, ws, r, qq, p, a, b, rfl, S, hq, hp, .inl ⟨hb, hr, q⟩⟩
  · cases hd with
    | kind qq x hq =>
      walk_at "pk"
      refine mS S (by decide) ?_
      walk_at "pk"
      exact ⟨ks, kh, ws, qq, x, rfl, S, hq, q⟩
    | told qq x hq =>
      walk_at "pk"
      refine mS S (by decide) ?_
      walk_at "pk"
      exact ⟨ks, kh, ws, qq, x, rfl, S, hq, q⟩
    | same qq p x y hq hp =>
      walk_at "pk"
      refine mS S (by decide) ?_
      walk_at "pk"
      exact ⟨ks, kh, ws, qq, p, x, y, rfl, S, hq, hp, q⟩
  · cases hd with
    | over r qq p a hq hp =>
      walk_at "pk"
      refine mS S (by decide) ?_
      walk_at "pk"
      exact ⟨ks, kh, ws, r, qq, p, a, 0, rfl, S, hq, hp, .inr ⟨rfl, _, _, rfl, rfl, q⟩⟩
    | rest r qq p a hq hp =>
      walk_at "pk"
      refine mS S (by decide) ?_
      walk_at "pk"
      exact ⟨ks, kh, ws, r, qq, p, a, 0, rfl, S, hq, hp, .inr ⟨rfl, _, _, rfl, rfl, q⟩⟩
abbrev sDone : Stmt := top 19
theorem scDone : FnScope ["store", "deed", "word", "value", "e"] ["store", "deed"] (defScope sDone) := ⟨rfl, rfl, rfl, by decide +kernel, rfl, by decide +kernel, by decide +kernel⟩
def gDone (CP : Addr) : List U → MM → UK → Prop := fun us M Q => ∃ (ks kh : Nat) (ws : List Wt) (d : T), us = [.m ks, .p d] ∧ Sto CP M ks kh ws ∧ ((∃ ws', DeedDo ws d ws' ∧ Q (.p (.tup [.str "", .non])) (M.set kh (lw ws'))) ∨ (∃ ans, DeedAsk ws d ans ∧ Q (.p (.tup [.str "", ans])) M) ∨ (DeedNo ws d "Nought" ∧ Q (.p (.tup [.str "Nought", .non])) M))
theorem ok_doneU {CP CN CW : Addr} {f : Addr} {fd : FuncData} (F : Fun K "_law_done" "_law_done" sDone f fd) (N : Nms mg) (ONought : ExcC K mg "Nought" CN) (BWrongKind : mg "WrongKind" = some (.ref CW)) (ENought_WrongKind : PySem.W.exmOne K (.ref CN) (.ref CW) = some false) (ENought_Nought : PySem.W.exmOne K (.ref CN) (.ref CN) = some true)
    (DDeedDone : DefX P w K mg base "_law_deed_done" 6 ["store", "deed"] (spX mg (gDeedDone CP))) : FnOk P w K mg base CX0 7 f fd ["store", "deed"] (spU (gDone CP)) := by
  refine F.zU scDone (fun us M Qu h => ?_) (fun cdv A outer s H E hr => ?_)
  · obtain ⟨_, _, _, _, rfl, _⟩ := h
    rfl
  refine ⟨_, (qss_cons (qs_set (i := 2) scDone.nd rfl (Or.inl rfl) qe_str)
    (qss_cons (qs_set (i := 3) scDone.nd rfl (Or.inl rfl) qe_non)
    (qss_cons (qs_try (l := [("Nought", _)]) ⟨rfl, rfl, rfl, rfl⟩ (fun _ _ =>
      (qxs_one (qx_set (i := 3) scDone.nd rfl (Or.inl rfl) (qx_call DDeedDone (hr.mono (by first | decide | exact Nat.le_refl _)) (qa_c (qv 0) (qa_c (qv 1) qa_nil))))))
      (hh_cons ONought.b (qh_miss BWrongKind ENought_WrongKind (qh_hit ONought.b ENought_Nought (fun _ => (qss_one (qs_set (i := 2) scDone.nd rfl (Or.inl rfl) qe_str))))) hh_nil))
    (qss_one (qs_ret (qe_tup (qa_c (qv 2) (qa_c (qv 3) qa_nil)))))))), _, (cs_seq (cs_asg (ce_c (.str _)) (cg_name 2))
      (cs_seq (cs_asg (ce_c .non) (cg_name 3))
      (cs_seq (cs_try (cs_setX (cx_call (ca_cons (ce_var 0) (ca_cons (ce_var 1) ca_nil)))) (zh_cons (cs_asg (ce_c (.str _)) (cg_name 2)) zh_nil))
      (cs_ret (ce_tup (ca_cons (ce_var 2) (ca_cons (ce_var 3) ca_nil))))))), fun us M Qu h => ?_⟩
  obtain ⟨ks, kh, ws, d, rfl, S, h⟩ := h
  walk_at "pk"
  refine ⟨ks, kh, ws, d, rfl, S, ?_⟩
  rcases h with ⟨ws', hd, q⟩ | ⟨ans, hd, q⟩ | ⟨hd, q⟩
  · refine .inl ⟨ws', hd, ?_⟩
    walk_at "pk"
    exact q
  · refine .inr (.inl ⟨ans, hd, ?_⟩)
    walk_at "pk"
    exact q
  · refine .inr (.inr ⟨_, hd, _, _, _, rfl, rfl, rfl, ?_⟩)
    walk_at "pk"
    exact q

theorem inB_at {a b : T} {x : V} {ts : List T} {ys : List V} {Q : T → Prop} (b0 : Bool) (h1 : vt a = some x) (h2 : seqT b = some ts) (h3 : vts ts = some ys) (h4 : inV x ys = b0) (q : Q (.bl b0)) : sIn false a b Q := ⟨x, ts, ys, h1, h2, h3, by rw [h4]; exact q⟩
local macro_rules | `(tactic| walk_at "pk") => `(tactic| (walk_at "v"; repeat ((first | refine ite_no (by decide) ?_ | refine ite_yes rfl ?_ | refine inB_at false rfl rfl rfl (by decide) ?_ | refine inB_at true rfl rfl rfl (by decide) ?_); walk_at "v")))
abbrev sOwnKind : Stmt := top 22
theorem scOwnKind : FnScope ["worth"] ["worth"] (defScope sOwnKind) := ⟨rfl, rfl, rfl, by decide +kernel, rfl, by decide +kernel, by decide +kernel⟩
theorem ok_own_kindU {f : Addr} {fd : FuncData} (F : Fun K "_law_own_kind" "_law_own_kind" sOwnKind f fd) (N : Nms mg) : FnOk P w K mg base CX0 1 f fd ["worth"] (spP gKindOf) := by
  refine F.zP scOwnKind (fun ts Qt h => ?_) (fun cdv A outer s H E hr => ?_)
  · obtain ⟨_, rfl, _⟩ := h
    rfl
  refine ⟨_, (qss_cons (qs_if (qt_val (qe_callB (call_isiK (K := K) rfl) (by rfl) N.isinstance b_isinstance (qa_c (qv 0) (qa_c (qe_bltn (v := .ty "int") (by rfl) N.int b_int rfl) qa_nil))))
      (qss_one (qs_ret qe_str))
      qss_nil)
    (qss_cons (qs_if (qt_val (qe_callB (call_isiK (K := K) rfl) (by rfl) N.isinstance b_isinstance (qa_c (qv 0) (qa_c (qe_bltn (v := .ty "str") (by rfl) N.str b_str rfl) qa_nil))))
      (qss_one (qs_ret qe_str))
      qss_nil)
    (qss_one (qs_ret (qe_ix (ix_tupK (K := K) rfl) (qv 0) qe_int (fun _ _ => rfl)))))), _, (cs_seq (cs_if (ct_b (ce_isi .int (ce_var 0)))
      (cs_ret (ce_c (.str _)))
      cs_next)
      (cs_seq (cs_if (ct_b (ce_isi .str (ce_var 0)))
      (cs_ret (ce_c (.str _)))
      cs_next)
      (cs_ret (ce_ixT (ce_var 0) (ce_c (.int _)))))), fun ts Qt h => ?_⟩
  obtain ⟨x, rfl, q⟩ := h
  cases x <;> (walk_at "v"; simp only [tW]; walk_at "v"; exact q)
structure Own (M : MM) (ko kb kc : Nat) (ws : List Wt) : Prop where
  o : M[ko]? = some (.lst [.m kb, .m kc])
  b : M[kb]? = some (lw ws)
  n : ws.length = 8
theorem own0_at {M : MM} {ko kb kc : Nat} {ws : List Wt} {Q : UK} (O : Own M ko kb kc ws) (q : Q (.m kb) M) : IxS itemsL M (.m ko) (.p (.int 0)) Q := ix_at (us := [.m kb, .m kc]) (by simp [itemsL, O.o]) rfl q
abbrev sOwnDo : Stmt := top 24
theorem scOwnDo : FnScope ["own", "deed", "word", "some", "q", "thing"] ["own", "deed"] (defScope sOwnDo) := ⟨rfl, rfl, rfl, by decide +kernel, rfl, by decide +kernel, by decide +kernel⟩
def gOwnDo : List U → MM → UK → Prop := fun us M Q => ∃ (ko kb kc : Nat) (ws : List Wt) (r : Nat) (n : Int), us = [.m ko, .p (.tup [.str "number", .int (r : Int), .int n])] ∧ Own M ko kb kc ws ∧ r < 8 ∧ Q (.p (.tup [.str "", .non])) (M.set kb (lw (ws.set r (.num n))))
theorem ok_own_doU {f : Addr} {fd : FuncData} (F : Fun K "_law_own_do" "_law_own_do" sOwnDo f fd) (N : Nms mg) (DOwnKind : Def P w K mg base "_law_own_kind" 1 ["worth"] (spP gKindOf)) (DOwnNumbers : Def P w K mg base "_law_own_numbers" 2 ["own", "deed"] (spU gNo)) : FnOk P w K mg base CX0 3 f fd ["own", "deed"] (spU gOwnDo) := by
  refine F.zU scOwnDo (fun us M Qu h => ?_) (fun cdv A outer s H E hr => ?_)
  · obtain ⟨_, _, _, _, _, _, rfl, _⟩ := h
    rfl
  refine ⟨_, (qss_cons (qs_set (i := 2) scOwnDo.nd rfl (Or.inl rfl) (qe_ix (ix_tupK (K := K) rfl) (qv 1) qe_int (fun _ _ => rfl)))
    (qss_cons (qs_set (i := 3) scOwnDo.nd rfl (Or.inl rfl) (qe_ix (ix_listK (K := K) rfl) (qv 0) qe_int (fun _ _ => rfl)))
    (qss_cons (qs_if (qt_cmpR (op_inK (K := K) rfl) (qv 2) (qe_lst (qa_c qe_str (qa_c qe_str (qa_c qe_str (qa_c qe_str (qa_c qe_str qa_nil)))))) (by with_unfolding_all rfl))
      (qss_one (qs_ret (qe_def DOwnNumbers (hr.mono (by first | decide | exact Nat.le_refl _)) (qa_c (qv 0) (qa_c (qv 1) qa_nil)))))
      qss_nil)
    (qss_cons (qs_if (qt_cmpR (op_inK (K := K) rfl) (qv 2) (qe_lst (qa_c qe_str (qa_c qe_str qa_nil))) (by with_unfolding_all rfl))
      (qss_one (qs_asg (qe_ix (ix_tupK (K := K) rfl) (qv 1) qe_int (fun _ _ => rfl)) (qg_sub (qv 3) (qe_ix (ix_tupK (K := K) rfl) (qv 1) qe_int (fun _ _ => rfl)) set_list)))
      qss_nil)
    (qss_cons (qs_if (qt_cmpR op_eq (qv 2) qe_str (nomark _))
      (qss_one (qs_asg (qe_tup (qa_c qe_str (qa_c (qe_ix (ix_tupK (K := K) rfl) (qv 1) qe_int (fun _ _ => rfl)) qa_nil))) (qg_sub (qv 3) (qe_ix (ix_tupK (K := K) rfl) (qv 1) qe_int (fun _ _ => rfl)) set_list)))
      qss_nil)
    (qss_cons (qs_if (qt_cmpR op_eq (qv 2) qe_str (nomark _))
      (qss_one (qs_asg (qe_ix (ix_listK (K := K) rfl) (qv 3) (qe_ix (ix_tupK (K := K) rfl) (qv 1) qe_int (fun _ _ => rfl)) (fun _ _ => rfl)) (qg_sub (qv 3) (qe_ix (ix_tupK (K := K) rfl) (qv 1) qe_int (fun _ _ => rfl)) set_list)))
      qss_nil)
    (qss_cons (qs_if (qt_cmpR op_eq (qv 2) qe_str (nomark _))
      (qss_cons (qs_expr (qe_lm PySem.F.slot_list_append PySem.F.type_list_append mt_append (qe_ix (ix_listK (K := K) rfl) (qv 0) qe_int (fun _ _ => rfl)) (qa_c (qe_lst (qa_c (qe_ix (ix_listK (K := K) rfl) (qv 3) (qe_ix (ix_tupK (K := K) rfl) (qv 1) qe_int (fun _ _ => rfl)) (fun _ _ => rfl)) (qa_c (qe_ix (ix_listK (K := K) rfl) (qv 3) (qe_ix (ix_tupK (K := K) rfl) (qv 1) qe_int (fun _ _ => rfl)) (fun _ _ => rfl)) qa_nil))) qa_nil)))
      (qss_one (qs_asg (qe_tup (qa_c qe_str (qa_c (qe_op op_sub (qe_callB call_lenL (by rfl) N.len b_len (qa_c (qe_ix (ix_listK (K := K) rfl) (qv 0) qe_int (fun _ _ => rfl)) qa_nil)) qe_int) qa_nil))) (qg_sub (qv 3) (qe_ix (ix_tupK (K := K) rfl) (qv 1) qe_int (fun _ _ => rfl)) set_list))))
      qss_nil)
    (qss_cons (qs_if (qt_cmpR (op_inK (K := K) rfl) (qv 2) (qe_lst (qa_c qe_str (qa_c qe_str (qa_c qe_str (qa_c qe_str qa_nil))))) (by with_unfolding_all rfl))
      (qss_cons (qs_set (i := 4) scOwnDo.nd rfl (Or.inl rfl) (qe_ifExp (qt_cmpR (op_inK (K := K) rfl) (qv 2) (qe_lst (qa_c qe_str (qa_c qe_str qa_nil))) (by with_unfolding_all rfl)) (qe_ix (ix_tupK (K := K) rfl) (qv 1) qe_int (fun _ _ => rfl)) (qe_ix (ix_tupK (K := K) rfl) (qv 1) qe_int (fun _ _ => rfl))))
      (qss_cons (qs_if (qt_cmpR op_ne (qe_def DOwnKind (hr.mono (by first | decide | exact Nat.le_refl _)) (qa_c (qe_ix (ix_listK (K := K) rfl) (qv 3) (qv 4) (fun _ _ => rfl)) qa_nil)) qe_str (nomark _))
        (qss_one (qs_ret (qe_tup (qa_c qe_str (qa_c qe_int qa_nil)))))
        qss_nil)
      (qss_cons (qs_set (i := 5) scOwnDo.nd rfl (Or.inl rfl) (qe_ix (ix_listK (K := K) rfl) (qe_ix (ix_listK (K := K) rfl) (qv 0) qe_int (fun _ _ => rfl)) (qe_ix (ix_tupK (K := K) rfl) (qe_ix (ix_listK (K := K) rfl) (qv 3) (qv 4) (fun _ _ => rfl)) qe_int (fun _ _ => rfl)) (fun _ _ => rfl)))
      (qss_one (qs_if (qt_cmpR (op_inK (K := K) rfl) (qv 2) (qe_lst (qa_c qe_str (qa_c qe_str qa_nil))) (by with_unfolding_all rfl))
        (qss_one (qs_asg (qe_ix (ix_listK (K := K) rfl) (qv 5) (qe_callTy call_int1 (by rfl) N.int b_int (qa_c (qe_cmpR op_eq (qv 2) qe_str (nomark _)) qa_nil)) (fun _ _ => rfl)) (qg_sub (qv 3) (qe_ix (ix_tupK (K := K) rfl) (qv 1) qe_int (fun _ _ => rfl)) set_list)))
        (qss_one (qs_asg (qe_ix (ix_listK (K := K) rfl) (qv 3) (qe_ix (ix_tupK (K := K) rfl) (qv 1) qe_int (fun _ _ => rfl)) (fun _ _ => rfl)) (qg_sub (qv 5) (qe_callTy call_int1 (by rfl) N.int b_int (qa_c (qe_cmpR op_eq (qv 2) qe_str (nomark _)) qa_nil)) set_list))))))))
      qss_nil)
    (qss_one (qs_ret (qe_tup (qa_c qe_str (qa_c qe_non qa_nil))))))))))))), _, (cs_seq (cs_asg (ce_ixT (ce_var 1) (ce_c (.int _))) (cg_name 2))
      (cs_seq (cs_asg (ce_ixL (ce_var 0) (ce_c (.int _))) (cg_name 3))
      (cs_seq (cs_if (ct_test (ce_op opl_in (ce_var 2) (ce_lst (ca_cons (ce_c (.str _)) (ca_cons (ce_c (.str _)) (ca_cons (ce_c (.str _)) (ca_cons (ce_c (.str _)) (ca_cons (ce_c (.str _)) ca_nil))))))))
      (cs_ret (ce_callU (ca_cons (ce_var 0) (ca_cons (ce_var 1) ca_nil))))
      cs_next)
      (cs_seq (cs_if (ct_test (ce_op opl_in (ce_var 2) (ce_lst (ca_cons (ce_c (.str _)) (ca_cons (ce_c (.str _)) ca_nil)))))
      (cs_asg (ce_ixT (ce_var 1) (ce_c (.int _))) (cg_sub (ce_var 3) (ce_ixT (ce_var 1) (ce_c (.int _)))))
      cs_next)
      (cs_seq (cs_if (ct_test (ce_op opl_eq (ce_var 2) (ce_c (.str _))))
      (cs_asg (ce_tup (ca_cons (ce_c (.str _)) (ca_cons (ce_ixT (ce_var 1) (ce_c (.int _))) ca_nil))) (cg_sub (ce_var 3) (ce_ixT (ce_var 1) (ce_c (.int _)))))
      cs_next)
      (cs_seq (cs_if (ct_test (ce_op opl_eq (ce_var 2) (ce_c (.str _))))
      (cs_asg (ce_ixL (ce_var 3) (ce_ixT (ce_var 1) (ce_c (.int _)))) (cg_sub (ce_var 3) (ce_ixT (ce_var 1) (ce_c (.int _)))))
      cs_next)
      (cs_seq (cs_if (ct_test (ce_op opl_eq (ce_var 2) (ce_c (.str _))))
      (cs_seq (cs_drop (ce_me mel_append (ce_ixL (ce_var 0) (ce_c (.int _))) (ca_cons (ce_lst (ca_cons (ce_ixL (ce_var 3) (ce_ixT (ce_var 1) (ce_c (.int _)))) (ca_cons (ce_ixL (ce_var 3) (ce_ixT (ce_var 1) (ce_c (.int _)))) ca_nil))) ca_nil)))
      (cs_asg (ce_tup (ca_cons (ce_c (.str _)) (ca_cons (ce_op (opl_I0 fun _ _ => .int _) (ce_len (ca_cons (ce_ixL (ce_var 0) (ce_c (.int _))) ca_nil)) (ce_c (.int _))) ca_nil))) (cg_sub (ce_var 3) (ce_ixT (ce_var 1) (ce_c (.int _))))))
      cs_next)
      (cs_seq (cs_if (ct_test (ce_op opl_in (ce_var 2) (ce_lst (ca_cons (ce_c (.str _)) (ca_cons (ce_c (.str _)) (ca_cons (ce_c (.str _)) (ca_cons (ce_c (.str _)) ca_nil)))))))
      (cs_seq (cs_asg (ce_if (ct_test (ce_op opl_in (ce_var 2) (ce_lst (ca_cons (ce_c (.str _)) (ca_cons (ce_c (.str _)) ca_nil))))) (ce_ixT (ce_var 1) (ce_c (.int _))) (ce_ixT (ce_var 1) (ce_c (.int _)))) (cg_name 4))
      (cs_seq (cs_if (ct_test (ce_op opl_ne (ce_callP (ca_cons (ce_ixL (ce_var 3) (ce_var 4)) ca_nil)) (ce_c (.str _))))
      (cs_ret (ce_tup (ca_cons (ce_c (.str _)) (ca_cons (ce_c (.int _)) ca_nil))))
      cs_next)
      (cs_seq (cs_asg (ce_ixL (ce_ixL (ce_var 0) (ce_c (.int _))) (ce_ixT (ce_ixL (ce_var 3) (ce_var 4)) (ce_c (.int _)))) (cg_name 5))
      (cs_if (ct_test (ce_op opl_in (ce_var 2) (ce_lst (ca_cons (ce_c (.str _)) (ca_cons (ce_c (.str _)) ca_nil)))))
      (cs_asg (ce_ixL (ce_var 5) (ce_cb cbl_int (ca_cons (ce_op opl_eq (ce_var 2) (ce_c (.str _))) ca_nil))) (cg_sub (ce_var 3) (ce_ixT (ce_var 1) (ce_c (.int _)))))
      (cs_asg (ce_ixL (ce_var 3) (ce_ixT (ce_var 1) (ce_c (.int _)))) (cg_sub (ce_var 5) (ce_cb cbl_int (ca_cons (ce_op opl_eq (ce_var 2) (ce_c (.str _))) ca_nil))))))))
      cs_next)
      (cs_ret (ce_tup (ca_cons (ce_c (.str _)) (ca_cons (ce_c .non) ca_nil)))))))))))), fun us M Qu h => ?_⟩
  obtain ⟨ko, kb, kc, ws, r, n, rfl, O, hr, q⟩ := h
  have hl := O.n
  walk_at "pk"
  refine own0_at O ?_
  walk_at "pk"
  refine wput_at (x := .num n) O.b (by omega) ?_
  walk_at "pk"
  exact q
abbrev sOwnAsk : Stmt := top 25
theorem scOwnAsk : FnScope ["own", "deed", "word", "one", "other"] ["own", "deed"] (defScope sOwnAsk) := ⟨rfl, rfl, rfl, by decide +kernel, rfl, by decide +kernel, by decide +kernel⟩
def gOwnAsk : List U → MM → UK → Prop := fun us M Q => ∃ (ko kb kc : Nat) (ws : List Wt) (d ans : T), us = [.m ko, .p d] ∧ Own M ko kb kc ws ∧ DeedAsk ws d ans ∧ Q (.p (.tup [.str "", ans])) M
theorem ok_own_askU {f : Addr} {fd : FuncData} (F : Fun K "_law_own_ask" "_law_own_ask" sOwnAsk f fd) (N : Nms mg) (DOwnKind : Def P w K mg base "_law_own_kind" 1 ["worth"] (spP gKindOf)) : FnOk P w K mg base CX0 2 f fd ["own", "deed"] (spU gOwnAsk) := by
  refine F.zU scOwnAsk (fun us M Qu h => ?_) (fun cdv A outer s H E hr => ?_)
  · obtain ⟨_, _, _, _, _, _, rfl, _⟩ := h
    rfl
  refine ⟨_, (qss_cons (qs_set (i := 2) scOwnAsk.nd rfl (Or.inl rfl) (qe_ix (ix_tupK (K := K) rfl) (qv 1) qe_int (fun _ _ => rfl)))
    (qss_cons (qs_set (i := 3) scOwnAsk.nd rfl (Or.inl rfl) (qe_ix (ix_listK (K := K) rfl) (qe_ix (ix_listK (K := K) rfl) (qv 0) qe_int (fun _ _ => rfl)) (qe_ix (ix_tupK (K := K) rfl) (qv 1) qe_int (fun _ _ => rfl)) (fun _ _ => rfl)))
    (qss_cons (qs_if (qt_cmpR op_eq (qv 2) qe_str (nomark _))
      (qss_one (qs_ret (qe_tup (qa_c qe_str (qa_c (qe_def DOwnKind (hr.mono (by first | decide | exact Nat.le_refl _)) (qa_c (qv 3) qa_nil)) qa_nil)))))
      qss_nil)
    (qss_cons (qs_if (qt_cmpR op_eq (qv 2) qe_str (nomark _))
      (qss_one (qs_ret (qe_tup (qa_c qe_str (qa_c (qe_ifExp (qt_cmpR op_eq (qe_def DOwnKind (hr.mono (by first | decide | exact Nat.le_refl _)) (qa_c (qv 3) qa_nil)) qe_str (nomark _)) qe_str (qv 3)) qa_nil)))))
      qss_nil)
    (qss_cons (qs_set (i := 4) scOwnAsk.nd rfl (Or.inl rfl) (qe_ix (ix_listK (K := K) rfl) (qe_ix (ix_listK (K := K) rfl) (qv 0) qe_int (fun _ _ => rfl)) (qe_ix (ix_tupK (K := K) rfl) (qv 1) qe_int (fun _ _ => rfl)) (fun _ _ => rfl)))
    (qss_cons (qs_if (qt_cmpR op_eq (qv 2) qe_str (nomark _))
      (qss_one (qs_ret (qe_tup (qa_c qe_str (qa_c (qe_and (qe_cmpR op_eq (qe_def DOwnKind (hr.mono (by first | decide | exact Nat.le_refl _)) (qa_c (qv 3) qa_nil)) (qe_def DOwnKind (hr.mono (by first | decide | exact Nat.le_refl _)) (qa_c (qv 4) qa_nil)) (nomark _)) (qe_one (qe_cmpR (op_eqW (K := K) rfl hr.units) (qv 3) (qv 4) (nomark _)))) qa_nil)))))
      qss_nil)
    (qss_cons (qs_if (qt_cmpR op_ne (qe_def DOwnKind (hr.mono (by first | decide | exact Nat.le_refl _)) (qa_c (qv 3) qa_nil)) qe_str (nomark _))
      (qss_one (qs_ret (qe_tup (qa_c qe_str (qa_c qe_int qa_nil)))))
      qss_nil)
    (qss_one (qs_ret (qe_ifExp (qt_cmpR op_ne (qe_def DOwnKind (hr.mono (by first | decide | exact Nat.le_refl _)) (qa_c (qv 4) qa_nil)) qe_str (nomark _)) (qe_tup (qa_c qe_str (qa_c qe_int qa_nil))) (qe_tup (qa_c qe_str (qa_c (qe_cmpR op_lt (qv 3) (qv 4) (nomark _)) qa_nil))))))))))))), _, (cs_seq (cs_asg (ce_ixT (ce_var 1) (ce_c (.int _))) (cg_name 2))
      (cs_seq (cs_asg (ce_ixL (ce_ixL (ce_var 0) (ce_c (.int _))) (ce_ixT (ce_var 1) (ce_c (.int _)))) (cg_name 3))
      (cs_seq (cs_if (ct_test (ce_op opl_eq (ce_var 2) (ce_c (.str _))))
      (cs_ret (ce_tup (ca_cons (ce_c (.str _)) (ca_cons (ce_callP (ca_cons (ce_var 3) ca_nil)) ca_nil))))
      cs_next)
      (cs_seq (cs_if (ct_test (ce_op opl_eq (ce_var 2) (ce_c (.str _))))
      (cs_ret (ce_tup (ca_cons (ce_c (.str _)) (ca_cons (ce_if (ct_test (ce_op opl_eq (ce_callP (ca_cons (ce_var 3) ca_nil)) (ce_c (.str _)))) (ce_c (.str _)) (ce_var 3)) ca_nil))))
      cs_next)
      (cs_seq (cs_asg (ce_ixL (ce_ixL (ce_var 0) (ce_c (.int _))) (ce_ixT (ce_var 1) (ce_c (.int _)))) (cg_name 4))
      (cs_seq (cs_if (ct_test (ce_op opl_eq (ce_var 2) (ce_c (.str _))))
      (cs_ret (ce_tup (ca_cons (ce_c (.str _)) (ca_cons (ce_andV (ce_op opl_eq (ce_callP (ca_cons (ce_var 3) ca_nil)) (ce_callP (ca_cons (ce_var 4) ca_nil))) (ce_op opl_eqW (ce_var 3) (ce_var 4))) ca_nil))))
      cs_next)
      (cs_seq (cs_if (ct_test (ce_op opl_ne (ce_callP (ca_cons (ce_var 3) ca_nil)) (ce_c (.str _))))
      (cs_ret (ce_tup (ca_cons (ce_c (.str _)) (ca_cons (ce_c (.int _)) ca_nil))))
      cs_next)
      (cs_ret (ce_if (ct_test (ce_op opl_ne (ce_callP (ca_cons (ce_var 4) ca_nil)) (ce_c (.str _)))) (ce_tup (ca_cons (ce_c (.str _)) (ca_cons (ce_c (.int _)) ca_nil))) (ce_tup (ca_cons (ce_c (.str _)) (ca_cons (ce_op (opl_I0 fun _ _ => .bl _) (ce_var 3) (ce_var 4)) ca_nil)))))))))))), fun us M Qu h => ?_⟩
  obtain ⟨ko, kb, kc, ws, d, ans, rfl, O, hd, q⟩ := h
  have hl := O.n
  cases hd with
  | kind qq x hq =>
    walk_at "pk"
    refine own0_at O ?_
    walk_at "pk"
    refine wix_at O.b hq ?_
    walk_at "pk"
    refine ⟨x, rfl, ?_⟩
    walk_at "pk"
    exact q
  | told qq x hq =>
    walk_at "pk"
    refine own0_at O ?_
    walk_at "pk"
    refine wix_at O.b hq ?_
    walk_at "pk"
    refine ⟨x, rfl, ?_⟩
    walk_at "pk"
    refine ite_no (by cases x <;> (dsimp only [kindW]; decide)) ?_
    walk_at "pk"
    exact q
  | same qq p x y hq hp =>
    walk_at "pk"
    refine own0_at O ?_
    walk_at "pk"
    refine wix_at O.b hq ?_
    walk_at "pk"
    refine own0_at O ?_
    walk_at "pk"
    refine wix_at O.b hp ?_
    walk_at "pk"
    refine ⟨x, rfl, ?_⟩
    walk_at "pk"
    refine ⟨y, rfl, ?_⟩
    walk_at "pk"
    refine ite2 (fun hk => eqW_at q) (fun hk => ?_)
    have : decide (x = y) = false := decide_eq_false fun z => hk (by rw [z])
    rw [this] at q
    exact q

local macro_rules | `(tactic| walk_at "pk") => `(tactic| (walk_at "v"; repeat ((first | refine ite_no (by decide) ?_ | refine ite_yes rfl ?_ | refine inB_at false rfl rfl rfl (by decide) ?_ | refine inB_at true rfl rfl rfl (by decide) ?_); walk_at "v")))
theorem DeedDo.len {ws ws' : List Wt} {d : T} (h : DeedDo ws d ws') : ws'.length = ws.length := by cases h <;> exact List.length_set
theorem depT2_tW (x : Wt) : depT 2 (tW x) := by
  cases x with
  | num => trivial
  | one => trivial
  | sgn k =>
    refine ⟨by show 2 ≤ 100000; decide, fun y hy => ?_⟩
    simp only [List.mem_cons, List.not_mem_nil, or_false] at hy
    rcases hy with rfl | rfl <;> trivial
theorem DeedAsk.dep {ws : List Wt} {d ans : T} (h : DeedAsk ws d ans) : depT 2 ans := by
  cases h with
  | kind => trivial
  | told => exact depT2_tW _
  | same => trivial
theorem dep_pair {a b : T} (ha : depT 2 a) (hb : depT 2 b) : depT 3 (.tup [a, b]) := by
  refine ⟨by show 2 ≤ 100000; decide, fun y hy => ?_⟩
  simp only [List.mem_cons, List.not_mem_nil, or_false] at hy
  rcases hy with rfl | rfl
  · exact ha
  · exact hb
theorem lw_inj {ws : List Wt} {us : List U} {k : Nat} (hn : ws.length = 8) (e : lw ws = .lst (.m k :: us)) : False := by
  unfold lw at e
  cases ws with
  | nil => cases hn
  | cons a l => simp at e
theorem Sto.set {CP : Addr} {M : MM} {ks kh k : Nat} {ws : List Wt} {o : MO} (S : Sto CP M ks kh ws) (h1 : k ≠ ks) (h2 : k ≠ kh) : Sto CP (M.set k o) ks kh ws := ⟨by rw [List.getElem?_set_ne h1]; exact S.s, by rw [List.getElem?_set_ne h2]; exact S.h, S.n⟩
theorem Own.set {M : MM} {ko kb kc k : Nat} {ws : List Wt} {o : MO} (O : Own M ko kb kc ws) (h1 : k ≠ ko) (h2 : k ≠ kb) : Own (M.set k o) ko kb kc ws := ⟨by rw [List.getElem?_set_ne h1]; exact O.o, by rw [List.getElem?_set_ne h2]; exact O.b, O.n⟩
/-- a store and the law's own worths, alike -/
structure Two (CP : Addr) (M : MM) (ks kh ko kb kc : Nat) (ws : List Wt) : Prop where
  S : Sto CP M ks kh ws
  O : Own M ko kb kc ws
  d : kh ≠ kb
theorem Two.kho {CP : Addr} {M : MM} {ks kh ko kb kc : Nat} {ws : List Wt} (W : Two CP M ks kh ko kb kc ws) : kh ≠ ko := fun z => by
  have h := W.S.h
  rw [z, W.O.o] at h
  exact lw_inj W.S.n (Option.some.inj h).symm
theorem Two.kbs {CP : Addr} {M : MM} {ks kh ko kb kc : Nat} {ws : List Wt} (W : Two CP M ks kh ko kb kc ws) : kb ≠ ks := fun z => by
  have h := W.O.b
  rw [z, W.S.s] at h
  unfold lw at h
  cases h
theorem Two.khs {CP : Addr} {M : MM} {ks kh ko kb kc : Nat} {ws : List Wt} (W : Two CP M ks kh ko kb kc ws) : kh ≠ ks := fun z => by
  have h := W.S.h
  rw [z, W.S.s] at h
  unfold lw at h
  cases h
theorem Two.kbo {CP : Addr} {M : MM} {ks kh ko kb kc : Nat} {ws : List Wt} (W : Two CP M ks kh ko kb kc ws) : kb ≠ ko := fun z => by
  have h := W.O.b
  rw [z, W.O.o] at h
  exact lw_inj W.S.n (Option.some.inj h).symm
theorem Two.up {CP : Addr} {M : MM} {ks kh ko kb kc : Nat} {ws ws' : List Wt} (W : Two CP M ks kh ko kb kc ws) (hn : ws'.length = ws.length) : Two CP ((M.set kh (lw ws')).set kb (lw ws')) ks kh ko kb kc ws' := by
  have hh := (List.getElem?_eq_some_iff.mp W.S.h).1
  have hb := (List.getElem?_eq_some_iff.mp W.O.b).1
  refine ⟨⟨?_, ?_, by rw [hn]; exact W.S.n⟩, ⟨?_, ?_, by rw [hn]; exact W.S.n⟩, W.d⟩
  · rw [List.getElem?_set_ne W.kbs, List.getElem?_set_ne W.khs]; exact W.S.s
  · rw [List.getElem?_set_ne (Ne.symm W.d), List.getElem?_set_self hh]
  · rw [List.getElem?_set_ne W.kbo, List.getElem?_set_ne W.kho]; exact W.O.o
  · rw [List.getElem?_set_self (by rw [List.length_set]; exact hb)]
abbrev sBoth : Stmt := top 26
theorem scBoth : FnScope ["store", "own", "deed"] ["store", "own", "deed"] (defScope sBoth) := ⟨rfl, rfl, rfl, by decide +kernel, rfl, by decide +kernel, by decide +kernel⟩
def gBoth (CP : Addr) : List U → MM → UK → Prop := fun us M Q => ∃ (ks kh ko kb kc : Nat) (ws : List Wt) (d : T), us = [.m ks, .m ko, .p d] ∧ Two CP M ks kh ko kb kc ws ∧ ((∃ (r : Nat) (n : Int), d = .tup [.str "number", .int (r : Int), .int n] ∧ r < 8 ∧ Q (.p (.bl true)) ((M.set kh (lw (ws.set r (.num n)))).set kb (lw (ws.set r (.num n))))) ∨ ∃ ans, DeedAsk ws d ans ∧ Q (.p (.bl true)) M)
theorem ok_bothU {CP : Addr} {f : Addr} {fd : FuncData} (F : Fun K "_law_both" "_law_both" sBoth f fd) (N : Nms mg) (DDone : Def P w K mg base "_law_done" 7 ["store", "deed"] (spU (gDone CP))) (DOwnDo : Def P w K mg base "_law_own_do" 3 ["own", "deed"] (spU gOwnDo)) (DOwnAsk : Def P w K mg base "_law_own_ask" 2 ["own", "deed"] (spU gOwnAsk)) (DAlike : Def P w K mg base "_law_alike" 4 ["found", "due"] (spP (gAlike 3))) : FnOk P w K mg base CX0 8 f fd ["store", "own", "deed"] (spU (gBoth CP)) := by
  refine F.zU scBoth (fun us M Qu h => ?_) (fun cdv A outer s H E hr => ?_)
  · obtain ⟨_, _, _, _, _, _, _, rfl, _⟩ := h
    rfl
  refine ⟨_, (qss_cons (qs_if (qt_cmpR (op_inK (K := K) rfl) (qe_ix (ix_tupK (K := K) rfl) (qv 2) qe_int (fun _ _ => rfl)) (qe_lst (qa_c qe_str (qa_c qe_str (qa_c qe_str (qa_c qe_str qa_nil))))) (by with_unfolding_all rfl))
      (qss_one (qs_ret (qe_def DAlike (hr.mono (by first | decide | exact Nat.le_refl _)) (qa_c (qe_def DDone (hr.mono (by first | decide | exact Nat.le_refl _)) (qa_c (qv 0) (qa_c (qv 2) qa_nil))) (qa_c (qe_def DOwnAsk (hr.mono (by first | decide | exact Nat.le_refl _)) (qa_c (qv 1) (qa_c (qv 2) qa_nil))) qa_nil)))))
      qss_nil)
    (qss_one (qs_ret (qe_def DAlike (hr.mono (by first | decide | exact Nat.le_refl _)) (qa_c (qe_def DDone (hr.mono (by first | decide | exact Nat.le_refl _)) (qa_c (qv 0) (qa_c (qv 2) qa_nil))) (qa_c (qe_def DOwnDo (hr.mono (by first | decide | exact Nat.le_refl _)) (qa_c (qv 1) (qa_c (qv 2) qa_nil))) qa_nil)))))), _, (cs_seq (cs_if (ct_test (ce_op opl_in (ce_ixT (ce_var 2) (ce_c (.int _))) (ce_lst (ca_cons (ce_c (.str _)) (ca_cons (ce_c (.str _)) (ca_cons (ce_c (.str _)) (ca_cons (ce_c (.str _)) ca_nil)))))))
      (cs_ret (ce_callP (ca_cons (ce_callU (ca_cons (ce_var 0) (ca_cons (ce_var 2) ca_nil))) (ca_cons (ce_callU (ca_cons (ce_var 1) (ca_cons (ce_var 2) ca_nil))) ca_nil))))
      cs_next)
      (cs_ret (ce_callP (ca_cons (ce_callU (ca_cons (ce_var 0) (ca_cons (ce_var 2) ca_nil))) (ca_cons (ce_callU (ca_cons (ce_var 1) (ca_cons (ce_var 2) ca_nil))) ca_nil))))), fun us M Qu h => ?_⟩
  obtain ⟨ks, kh, ko, kb, kc, ws, d, rfl, W, h⟩ := h
  rcases h with ⟨r, n, rfl, hr8, q⟩ | ⟨ans, hd, q⟩
  · have W2 : Own (M.set kh (lw (ws.set r (.num n)))) ko kb kc ws := W.O.set W.kho W.d
    walk_at "pk"
    refine ⟨ks, kh, ws, _, rfl, W.S, .inl ⟨_, .num r n hr8, ?_⟩⟩
    walk_at "v"
    refine ⟨ko, kb, kc, ws, r, n, rfl, W2, hr8, ?_⟩
    walk_at "v"
    refine ⟨_, rfl, dep_pair trivial trivial, ?_⟩
    walk_at "v"
    exact q
  · have hd2 := hd
    cases hd2 <;>
    · walk_at "pk"
      refine ⟨ks, kh, ws, _, rfl, W.S, .inr (.inl ⟨_, hd, ?_⟩)⟩
      walk_at "v"
      refine ⟨ko, kb, kc, ws, _, _, rfl, W.O, hd, ?_⟩
      walk_at "v"
      refine ⟨_, rfl, dep_pair trivial hd.dep, ?_⟩
      walk_at "v"
      exact q
abbrev sAllSame : Stmt := top 27
theorem scAllSame : FnScope ["store", "own", "turn", "q", "deed"] ["store", "own", "turn"] (defScope sAllSame) := ⟨rfl, rfl, rfl, by decide +kernel, rfl, by decide +kernel, by decide +kernel⟩
def gAllSame (CP : Addr) : List U → MM → UK → Prop := fun us M Q => ∃ (ks kh ko kb kc : Nat) (ws : List Wt) (turn : Nat), us = [.m ks, .m ko, .p (.int (turn : Int))] ∧ Two CP M ks kh ko kb kc ws ∧ Q (.p (.bl true)) M
theorem ask_at {CP : Addr} {M : MM} {ks kh ko kb kc : Nat} {ws : List Wt} {d ans : T} {Q : UK} (W : Two CP M ks kh ko kb kc ws) (hd : DeedAsk ws d ans) (q : Q (.p (.bl true)) M) : gBoth CP [.m ks, .m ko, .p d] M Q := ⟨ks, kh, ko, kb, kc, ws, d, rfl, W, .inr ⟨ans, hd, q⟩⟩
theorem ws_at {ws : List Wt} (h : ws.length = 8) {q : Nat} (hq : q < 8) : ∃ x, ws[q]? = some x := ⟨ws[q]'(by omega), List.getElem?_eq_getElem _⟩
theorem ok_all_sameU {CP : Addr} {f : Addr} {fd : FuncData} (F : Fun K "_law_all_same" "_law_all_same" sAllSame f fd) (N : Nms mg) (DBoth : Def P w K mg base "_law_both" 8 ["store", "own", "deed"] (spU (gBoth CP))) : FnOk P w K mg base CX0 9 f fd ["store", "own", "turn"] (spU (gAllSame CP)) := by
  refine F.zU scAllSame (fun us M Qu h => ?_) (fun cdv A outer s H E hr => ?_)
  · obtain ⟨_, _, _, _, _, _, _, rfl, _⟩ := h
    rfl
  refine ⟨_, (qss_cons (qs_for PassesOwn.never rfl (qi_range1 rfl N.range (qa_c qe_int qa_nil)) (qg_name (i := 3) scAllSame.nd rfl (Or.inl rfl))
      (qss_one (qs_for PassesOwn.never rfl (qi_listK (K := K) rfl (qe_lst (qa_c (qe_tup (qa_c qe_str (qa_c (qv 3) qa_nil))) (qa_c (qe_tup (qa_c qe_str (qa_c (qv 3) qa_nil))) (qa_c (qe_tup (qa_c qe_str (qa_c (qv 3) (qa_c (qe_op op_mod (qe_op op_add (qv 3) (qv 2)) qe_int) qa_nil)))) (qa_c (qe_tup (qa_c qe_str (qa_c (qe_op op_mod (qv 2) qe_int) (qa_c (qv 3) qa_nil)))) qa_nil)))))) (qg_name (i := 4) scAllSame.nd rfl (Or.inl rfl))
        (qss_one (qs_if (qt_not (qt_val (qe_def DBoth (hr.mono (by first | decide | exact Nat.le_refl _)) (qa_c (qv 0) (qa_c (qv 1) (qa_c (qv 4) qa_nil))))))
          (qss_one (qs_ret qe_bl))
          qss_nil)))))
    (qss_one (qs_ret qe_bl))), _, (cs_seq (cs_for (ci_rng1 (ca_cons (ce_c (.int _)) ca_nil)) (cg_name 3)
      (cs_for (ci_list (ce_lst (ca_cons (ce_tup (ca_cons (ce_c (.str _)) (ca_cons (ce_var 3) ca_nil))) (ca_cons (ce_tup (ca_cons (ce_c (.str _)) (ca_cons (ce_var 3) ca_nil))) (ca_cons (ce_tup (ca_cons (ce_c (.str _)) (ca_cons (ce_var 3) (ca_cons (ce_op (opl_I fun _ _ => .int _) (ce_op (opl_I0 fun _ _ => .int _) (ce_var 3) (ce_var 2)) (ce_c (.int _))) ca_nil)))) (ca_cons (ce_tup (ca_cons (ce_c (.str _)) (ca_cons (ce_op (opl_I fun _ _ => .int _) (ce_var 2) (ce_c (.int _))) (ca_cons (ce_var 3) ca_nil)))) ca_nil)))))) (cg_name 4)
      (cs_if (ct_not (ct_b (ce_callU (ca_cons (ce_var 0) (ca_cons (ce_var 1) (ca_cons (ce_var 4) ca_nil))))))
      (cs_ret (ce_c (.bl _)))
      cs_next)))
      (cs_ret (ce_c (.bl _)))), fun us M Qu h => ?_⟩
  obtain ⟨ks, kh, ko, kb, kc, ws, turn, rfl, W, q⟩ := h
  have hn := W.S.n
  walk_at "v"
  refine rng_at (by decide) (by decide) ?_
  refine ufor_rng (fun i ρ M' => ∃ x3 x4, ρ = [some (.m ks), some (.m ko), some (.p (.int (turn : Int))), x3, x4] ∧ M' = M) ⟨_, _, rfl, rfl⟩ ?_ ?_
  · rintro i ρ M' hi ⟨x3, x4, rfl, rfl⟩
    have hi8 : i < 8 := hi
    walk_at "v"
    have hall : ∀ t ∈ [T.tup [T.str "kind", T.int (i : Int)], T.tup [T.str "told", T.int (i : Int)], T.tup [T.str "same", T.int (i : Int), T.int (((i : Int) + (turn : Int)) % 8)], T.tup [T.str "same", T.int ((turn : Int) % 8), T.int (i : Int)]], ∃ ans, DeedAsk ws t ans := by
      obtain ⟨x, hx⟩ := ws_at hn hi8
      obtain ⟨y, hy⟩ := ws_at hn (q := (i + turn) % 8) (Nat.mod_lt _ (by decide))
      obtain ⟨z, hz⟩ := ws_at hn (q := turn % 8) (Nat.mod_lt _ (by decide))
      rw [show ((i : Int) + (turn : Int)) % 8 = (((i + turn) % 8 : Nat) : Int) by omega, show (turn : Int) % 8 = ((turn % 8 : Nat) : Int) by omega]
      intro t ht
      simp only [List.mem_cons, List.not_mem_nil, or_false] at ht
      rcases ht with rfl | rfl | rfl | rfl
      · exact ⟨_, .kind i x hx⟩
      · exact ⟨_, .told i x hx⟩
      · exact ⟨_, .same i _ x y hx hy⟩
      · exact ⟨_, .same _ i z x hz hx⟩
    refine ⟨by decide, by decide, ?_⟩
    refine ufor_list (fun j ρ M2 => ∃ x4, ρ = [some (.m ks), some (.m ko), some (.p (.int (turn : Int))), some (.p (.int (i : Int))), x4] ∧ M2 = M') ⟨_, rfl, rfl⟩ ?_ ?_
    · rintro j t ρ M2 ht ⟨x4, rfl, rfl⟩
      obtain ⟨ans, hd⟩ := hall t (List.mem_of_getElem? ht)
      walk_at "v"
      refine ask_at W hd ?_
      walk_at "v"
      exact ⟨_, rfl⟩
    · rintro ρ M2 ⟨x4, rfl, rfl⟩
      exact ⟨_, _, rfl, rfl⟩
  · rintro ρ M' ⟨x3, x4, rfl, rfl⟩
    walk_at "v"
    exact q

abbrev sAnyNumber : Stmt := top 21
theorem scAnyNumber : FnScope ["bag", "kind", "sign"] ["bag"] (defScope sAnyNumber) := ⟨rfl, rfl, rfl, by decide +kernel, rfl, by decide +kernel, by decide +kernel⟩
def gAnyNumber : List U → MM → UK → Prop := fun us M Q => ∃ (k : Nat) (o : MO), us = [.m k] ∧ M[k]? = some o ∧ BagO o ∧ ∀ (n : Int) (o' : MO), BagO o' → Bt 300 n → Q (.p (.int n)) (M.set k o')
theorem ok_any_numberU {f : Addr} {fd : FuncData} (F : Fun K "_law_any_number" "_law_any_number" sAnyNumber f fd) (N : Nms mg) (DDraw : Def P w K mg base "_law_draw" 1 ["bag", "many"] (spU gDraw)) : FnOk P w K mg base CX0 2 f fd ["bag"] (spU gAnyNumber) := by
  refine F.zV scAnyNumber (fun us M Qu h => ?_) (fun cdv A outer s H E hr => ?_)
  · obtain ⟨_, _, rfl, _⟩ := h
    rfl
  refine ⟨_, (qss_cons (qs_set (i := 1) scAnyNumber.nd rfl (Or.inl rfl) (qe_def DDraw (hr.mono (by first | decide | exact Nat.le_refl _)) (qa_c (qv 0) (qa_c qe_int qa_nil))))
    (qss_cons (qs_set (i := 2) scAnyNumber.nd rfl (Or.inl rfl) (qe_op op_sub (qe_op op_mul (qe_def DDraw (hr.mono (by first | decide | exact Nat.le_refl _)) (qa_c (qv 0) (qa_c qe_int qa_nil))) qe_int) qe_int))
    (qss_cons (qs_if (qt_cmpR op_lt (qv 1) qe_int (nomark _))
      (qss_one (qs_ret (qe_op op_sub (qe_def DDraw (hr.mono (by first | decide | exact Nat.le_refl _)) (qa_c (qv 0) (qa_c qe_int qa_nil))) qe_int)))
      qss_nil)
    (qss_cons (qs_if (qt_cmpR op_lt (qv 1) qe_int (nomark _))
      (qss_one (qs_ret (qe_op op_mul (qv 2) (qe_op op_sub (qe_op op_add (qe_op op_shl qe_int (qe_def DDraw (hr.mono (by first | decide | exact Nat.le_refl _)) (qa_c (qv 0) (qa_c qe_int qa_nil)))) (qe_def DDraw (hr.mono (by first | decide | exact Nat.le_refl _)) (qa_c (qv 0) (qa_c qe_int qa_nil)))) qe_int))))
      qss_nil)
    (qss_one (qs_ret (qe_op op_mul (qv 2) (qe_def DDraw (hr.mono (by first | decide | exact Nat.le_refl _)) (qa_c (qv 0) (qa_c (qe_ix (ix_listK (K := K) rfl) (qe_lst (qa_c (qe_op op_pow qe_int qe_int) (qa_c (qe_op op_pow qe_int qe_int) qa_nil))) (qe_op op_sub (qv 1) qe_int) (fun _ _ => rfl)) qa_nil)))))))))), _, (cs_seq (cs_asg (ce_callU (ca_cons (ce_var 0) (ca_cons (ce_c (.int _)) ca_nil))) (cg_name 1))
      (cs_seq (cs_asg (ce_op (opl_I0 fun _ _ => .int _) (ce_op (opl_I fun _ _ => .int _) (ce_callU (ca_cons (ce_var 0) (ca_cons (ce_c (.int _)) ca_nil))) (ce_c (.int _))) (ce_c (.int _))) (cg_name 2))
      (cs_seq (cs_if (ct_test (ce_op (opl_I0 fun _ _ => .bl _) (ce_var 1) (ce_c (.int _))))
      (cs_ret (ce_op (opl_I0 fun _ _ => .int _) (ce_callU (ca_cons (ce_var 0) (ca_cons (ce_c (.int _)) ca_nil))) (ce_c (.int _))))
      cs_next)
      (cs_seq (cs_if (ct_test (ce_op (opl_I0 fun _ _ => .bl _) (ce_var 1) (ce_c (.int _))))
      (cs_ret (ce_op (opl_I fun _ _ => .int _) (ce_var 2) (ce_op (opl_I0 fun _ _ => .int _) (ce_op (opl_I0 fun _ _ => .int _) (ce_op (opl_I fun _ _ => .int _) (ce_c (.int _)) (ce_callU (ca_cons (ce_var 0) (ca_cons (ce_c (.int _)) ca_nil)))) (ce_callU (ca_cons (ce_var 0) (ca_cons (ce_c (.int _)) ca_nil)))) (ce_c (.int _)))))
      cs_next)
      (cs_ret (ce_op (opl_I fun _ _ => .int _) (ce_var 2) (ce_callU (ca_cons (ce_var 0) (ca_cons (ce_ixL (ce_lst (ca_cons (ce_op (opl_I fun _ _ => .int _) (ce_c (.int _)) (ce_c (.int _))) (ca_cons (ce_op (opl_I fun _ _ => .int _) (ce_c (.int _)) (ce_c (.int _))) ca_nil))) (ce_op (opl_I0 fun _ _ => .int _) (ce_var 1) (ce_c (.int _)))) ca_nil))))))))), fun us M M1 Qu e1 h => ?_⟩
  obtain ⟨k, o, rfl, em, hB, post⟩ := h
  obtain ⟨hkl, eM⟩ := MB_start em
  rw [e1.trans eM]
  have fin : ∀ (z : Int) (o' : MO), BagO o' → Bt 300 z → TrimOk M (MB M k o' []) ∧ Qu (.p (.int z)) (List.take (List.length M) (MB M k o' [])) := fun z o' B h1 => ⟨MB_trim B.pur, by rw [MB_take]; exact post z o' B h1⟩
  walk_at "v"
  refine draw_at hkl hB (by decide) (by decide) fun kd o1 w0 w1 B1 => ?_
  walk_at "v"
  refine draw_at hkl B1 (by decide) (by decide) fun d2 o3 d20 d21 B3 => ?_
  walk_at "v"
  have hsg : d2 * 2 - 1 = 1 ∨ d2 * 2 - 1 = -1 := by omega
  refine ⟨.inl ⟨by omega, by omega⟩, ?_⟩
  walk_at "v"
  refine ite2 (fun h1 => ?_) (fun h1 => ?_)
  · refine draw_at hkl B3 (by decide) (by decide) fun d o2 d0 d1 B2 => ?_
    walk_at "v"
    exact fin _ _ B2 (Bt.small (by omega) (by omega) (by decide))
  walk_at "v"
  refine ite2 (fun h2 => ?_) (fun h2 => ?_)
  · refine draw_at hkl B3 (by decide) (by decide) fun x o4 x0 x1 B4 => ?_
    walk_at "v"
    refine ⟨⟨by omega, by omega, by decide⟩, ?_⟩
    refine draw_at hkl B4 (by decide) (by decide) fun d5 o5 d50 d51 B5 => ?_
    walk_at "v"
    refine ⟨.inl ⟨by omega, by omega⟩, ?_⟩
    refine fin _ _ B5 ?_
    have e2 := (Bt.pow x.toNat).add (Bt.small (i := d5 - 2) (n := 62) (by omega) (by omega) (by decide))
    have e3 := (e2.sign hsg).mono (m := 300) (by omega)
    rw [show (1 : Int) * 2 ^ x.toNat + d5 - 2 = 1 * 2 ^ x.toNat + (d5 - 2) by omega]
    exact e3
  · walk_at "v"
    refine ⟨⟨by decide, by decide, by decide⟩, ⟨by decide, by decide, by decide⟩, ?_⟩
    have h10 : Bt 300 ((10 : Int) ^ Int.toNat 60) := by unfold Bt; decide +kernel
    have h20 : Bt 300 ((10 : Int) ^ Int.toNat 20) := by unfold Bt; decide +kernel
    rcases (show kd = 4 ∨ kd = 5 by omega) with rfl | rfl
    · refine ixl_at rfl ?_
      refine draw_at hkl B3 (by decide) (by decide +kernel) fun x o4 x0 x1 B4 => ?_
      walk_at "v"
      refine ⟨.inl ⟨by omega, by omega⟩, ?_⟩
      walk_at "v"
      exact fin _ _ B4 ((h10.nonneg_le x0 (Int.le_of_lt x1)).sign hsg)
    · refine ixl_at rfl ?_
      refine draw_at hkl B3 (by decide) (by decide +kernel) fun x o4 x0 x1 B4 => ?_
      walk_at "v"
      refine ⟨.inl ⟨by omega, by omega⟩, ?_⟩
      walk_at "v"
      exact fin _ _ B4 ((h20.nonneg_le x0 (Int.le_of_lt x1)).sign hsg)

/-! ### the law's own dividing -/
theorem ediv_is {a b q r : Int} (hb : 0 < b) (h : r + b * q = a) (h0 : 0 ≤ r) (h1 : r < b) : a.fdiv b = q := by
  rw [Int.fdiv_eq_ediv_of_nonneg a (by omega)]
  exact ((Int.ediv_emod_unique hb).mpr ⟨h, h0, h1⟩).1
theorem floor_same {a b found left : Int} (hb : b ≠ 0) (h : ((a.natAbs : Int)) = found * (b.natAbs : Int) + left) (h0 : 0 ≤ left) (h1 : left < (b.natAbs : Int)) (hs : decide (a < 0) = decide (b < 0)) : a.fdiv b = found := by
  by_cases ha : a < 0
  · have hb2 : b < 0 := by simpa [ha] using hs
    rw [← Int.neg_fdiv_neg]
    refine ediv_is (r := left) (by omega) ?_ h0 (by omega)
    rw [show (b.natAbs : Int) = -b by omega, show (a.natAbs : Int) = -a by omega] at h
    rw [Int.mul_comm]; omega
  · have hb2 : ¬ b < 0 := by simpa [ha] using hs
    refine ediv_is (r := left) (by omega) ?_ h0 (by omega)
    rw [show (b.natAbs : Int) = b by omega, show (a.natAbs : Int) = a by omega] at h
    rw [Int.mul_comm]; omega
theorem floor_other {a b found left : Int} (hb : b ≠ 0) (h : ((a.natAbs : Int)) = found * (b.natAbs : Int) + left) (h0 : 0 ≤ left) (h1 : left < (b.natAbs : Int)) (hs : ¬ decide (a < 0) = decide (b < 0)) : a.fdiv b = 0 - found - (if left > 0 then 1 else 0) := by
  have key : ∀ {x y : Int}, 0 < y → -x = found * y + left → left < y → x.fdiv y = 0 - found - (if left > 0 then 1 else 0) := fun {x y} hy hx hl => by
    by_cases hp : left > 0
    · rw [if_pos hp]
      refine ediv_is (r := y - left) hy ?_ (by omega) (by omega)
      rw [show y * (0 - found - 1) = -(found * y) - y by rw [Int.mul_sub, Int.mul_sub, Int.mul_zero, Int.mul_one, Int.mul_comm y found]; omega]
      omega
    · rw [if_neg hp]
      refine ediv_is (r := 0) hy ?_ (by omega) (by omega)
      rw [show y * (0 - found - 0) = -(found * y) by rw [Int.sub_zero, Int.mul_sub, Int.mul_zero, Int.mul_comm y found]; omega]
      omega
  by_cases ha : a < 0
  · have hb2 : ¬ b < 0 := fun z => hs (by simp [ha, z])
    refine key (by omega) ?_ (by omega)
    rw [show (b.natAbs : Int) = b by omega, show (a.natAbs : Int) = -a by omega] at h
    exact h
  · have hb2 : b < 0 := by
      rcases Int.lt_or_le b 0 with z | z
      · exact z
      · exact absurd (by simp [ha, Int.not_lt.mpr z]) hs
    rw [← Int.neg_fdiv_neg]
    refine key (by omega) ?_ (by omega)
    rw [show (b.natAbs : Int) = -b by omega, show (a.natAbs : Int) = a by omega] at h
    rw [Int.neg_neg]
    exact h
/-- the steps: b, 2 b, 4 b .. -/
def stps (b : Int) (n : Nat) : List T := (List.range n).map fun i => T.int ((b.natAbs : Int) * 2 ^ i)
theorem stps_len (b : Int) (n : Nat) : (stps b n).length = n := by simp [stps]
theorem stps_succ (b : Int) (n : Nat) : stps b (n + 1) = stps b n ++ [.int ((b.natAbs : Int) * 2 ^ n)] := by simp [stps, List.range_succ]
theorem stps_last (b : Int) (n : Nat) : atI ((stps b (n + 1)).map U.p) (-1) = some (.p (.int ((b.natAbs : Int) * 2 ^ n))) := by
  unfold atI ixN
  rw [List.length_map, stps_len, if_neg (by decide), if_pos (by omega)]
  have e : ((-1 : Int) + ((n + 1 : Nat) : Int)).toNat = n := by omega
  rw [e]
  show ((stps b (n + 1)).map U.p)[n]? = _
  rw [stps_succ, List.map_append, List.getElem?_append_right (by simp [stps_len])]
  simp [stps_len]
abbrev sFloor : Stmt := top 28
theorem scFloor : FnScope ["a", "b", "steps", "left", "found", "step"] ["a", "b"] (defScope sFloor) := ⟨rfl, rfl, rfl, by decide +kernel, rfl, by decide +kernel, by decide +kernel⟩
def gFloor : List T → (T → Prop) → Prop := fun ts Q => ∃ a b : Int, ts = [.int a, .int b] ∧ b ≠ 0 ∧ Bt 400 a ∧ Bt 400 b ∧ Q (.int (a.fdiv b))
theorem ok_floorU {f : Addr} {fd : FuncData} (F : Fun K "_law_floor" "_law_floor" sFloor f fd) (N : Nms mg) : FnOk P w K mg base CX0 1 f fd ["a", "b"] (spP gFloor) := by
  refine F.zP scFloor (fun ts Qt h => ?_) (fun cdv A outer s H E hr => ?_)
  · obtain ⟨_, _, rfl, _⟩ := h
    rfl
  refine ⟨_, (qss_cons (qs_set (i := 2) scFloor.nd rfl (Or.inl rfl) (qe_lst (qa_c (qe_callB call_abs (by rfl) N.abs b_abs (qa_c (qv 1) qa_nil)) qa_nil)))
    (qss_cons (qs_while PassesOwn.never (qt_cmpR op_le (qe_ix (ix_listK (K := K) rfl) (qv 2) (qe_un un_neg qe_int) (fun _ _ => rfl)) (qe_callB call_abs (by rfl) N.abs b_abs (qa_c (qv 0) qa_nil)) (nomark _))
      (qss_one (qs_expr (qe_lm PySem.F.slot_list_append PySem.F.type_list_append mt_append (qv 2) (qa_c (qe_op op_mul (qe_ix (ix_listK (K := K) rfl) (qv 2) (qe_un un_neg qe_int) (fun _ _ => rfl)) qe_int) qa_nil)))))
    (qss_cons (qs_set (i := 3) scFloor.nd rfl (Or.inl rfl) (qe_callB call_abs (by rfl) N.abs b_abs (qa_c (qv 0) qa_nil)))
    (qss_cons (qs_set (i := 4) scFloor.nd rfl (Or.inl rfl) qe_int)
    (qss_cons (qs_for PassesOwn.never rfl (qi_listK (K := K) rfl (qe_rev (K := K) rfl (qv 2))) (qg_name (i := 5) scFloor.nd rfl (Or.inl rfl))
      (qss_cons (qs_set (i := 4) scFloor.nd rfl (Or.inl rfl) (qe_op op_add (qe_op op_mul (qv 4) qe_int) (qe_callTy call_int1 (by rfl) N.int b_int (qa_c (qe_cmpR op_le (qv 5) (qv 3) (nomark _)) qa_nil))))
      (qss_one (qs_set (i := 3) scFloor.nd rfl (Or.inl rfl) (qe_op op_sub (qv 3) (qe_op op_mul (qv 5) (qe_callTy call_int1 (by rfl) N.int b_int (qa_c (qe_cmpR op_le (qv 5) (qv 3) (nomark _)) qa_nil))))))))
    (qss_cons (qs_if (qt_cmpR op_eq (qe_cmpR op_lt (qv 0) qe_int (nomark _)) (qe_cmpR op_lt (qv 1) qe_int (nomark _)) (nomark _))
      (qss_one (qs_ret (qv 4)))
      qss_nil)
    (qss_one (qs_ret (qe_op op_sub (qe_op op_sub qe_int (qv 4)) (qe_callTy call_int1 (by rfl) N.int b_int (qa_c (qe_cmpR op_gt (qv 3) qe_int (nomark _)) qa_nil))))))))))), _, (cs_seq (cs_asg (ce_new (ca_cons (ce_cb cbl_abs (ca_cons (ce_var 1) ca_nil)) ca_nil)) (cg_name 2))
      (cs_seq (cs_while (ct_test (ce_op (opl_I0 fun _ _ => .bl _) (ce_ixL (ce_var 2) (ce_neg (ce_c (.int _)))) (ce_cb cbl_abs (ca_cons (ce_var 0) ca_nil))))
      (cs_drop (ce_me mel_append (ce_var 2) (ca_cons (ce_op (opl_I fun _ _ => .int _) (ce_ixL (ce_var 2) (ce_neg (ce_c (.int _)))) (ce_c (.int _))) ca_nil))))
      (cs_seq (cs_asg (ce_cb cbl_abs (ca_cons (ce_var 0) ca_nil)) (cg_name 3))
      (cs_seq (cs_asg (ce_c (.int _)) (cg_name 4))
      (cs_seq (cs_for (ci_list (ce_revL (ce_var 2))) (cg_name 5)
      (cs_seq (cs_asg (ce_op (opl_I0 fun _ _ => .int _) (ce_op (opl_I fun _ _ => .int _) (ce_var 4) (ce_c (.int _))) (ce_cb cbl_int (ca_cons (ce_op (opl_I0 fun _ _ => .bl _) (ce_var 5) (ce_var 3)) ca_nil))) (cg_name 4))
      (cs_asg (ce_op (opl_I0 fun _ _ => .int _) (ce_var 3) (ce_op (opl_I fun _ _ => .int _) (ce_var 5) (ce_cb cbl_int (ca_cons (ce_op (opl_I0 fun _ _ => .bl _) (ce_var 5) (ce_var 3)) ca_nil)))) (cg_name 3))))
      (cs_seq (cs_if (ct_test (ce_op opl_eq (ce_op (opl_I0 fun _ _ => .bl _) (ce_var 0) (ce_c (.int _))) (ce_op (opl_I0 fun _ _ => .bl _) (ce_var 1) (ce_c (.int _)))))
      (cs_ret (ce_var 4))
      cs_next)
      (cs_ret (ce_op (opl_I0 fun _ _ => .int _) (ce_op (opl_I0 fun _ _ => .int _) (ce_c (.int _)) (ce_var 4)) (ce_cb cbl_int (ca_cons (ce_op (opl_I0 fun _ _ => .bl _) (ce_var 3) (ce_c (.int _))) ca_nil)))))))))), fun ts Qt h => ?_⟩
  obtain ⟨a, b, rfl, hb, ha4, hb4, q⟩ := h
  have hB : (1 : Int) ≤ (b.natAbs : Int) := by omega
  have ea : (if a < 0 then -a else a) = (a.natAbs : Int) := by split <;> omega
  have eb : (if b < 0 then -b else b) = (b.natAbs : Int) := by split <;> omega
  have hA : (a.natAbs : Int) < 2 ^ 400 := by unfold Bt at ha4; exact_mod_cast ha4
  walk_at "v"
  rw [eb]
  have e1 : [MO.lst [U.p (T.int (b.natAbs : Int))]] = [MO.lst ((stps b 1).map U.p)] := by simp [stps]
  rw [e1]
  refine ⟨fun m ρ M => ∃ n : Nat, ρ = [some (.p (.int a)), some (.p (.int b)), some (.m 0), none, none, none] ∧ M = [.lst ((stps b (n + 1)).map U.p)] ∧ n + m = 401 ∧ (n = 0 ∨ (b.natAbs : Int) * 2 ^ (n - 1) ≤ (a.natAbs : Int)), ⟨401, 0, rfl, rfl, rfl, .inl rfl⟩, ?_⟩
  rintro m ρ M ⟨n, rfl, rfl, hm, hn⟩
  have h400 : n ≤ 400 := by
    rcases hn with hn | hn
    · omega
    · by_cases hz : n = 0
      · omega
      · have h2 : (2 : Int) ^ (n - 1) < 2 ^ 400 := by
          have : (2 : Int) ^ (n - 1) ≤ (b.natAbs : Int) * 2 ^ (n - 1) := by
            have hp : (0 : Int) < 2 ^ (n - 1) := Int.pow_pos (by decide)
            have := Int.mul_le_mul_of_nonneg_right hB (Int.le_of_lt hp)
            rwa [Int.one_mul] at this
          omega
        have h3 : (2 : Nat) ^ (n - 1) < 2 ^ 400 := by exact_mod_cast h2
        have := (Nat.pow_lt_pow_iff_right (a := 2) (by decide)).mp h3
        omega
  walk_at "v"
  refine ix_at (us := (stps b (n + 1)).map U.p) rfl (stps_last b n) ?_
  walk_at "v"
  simp only [ea]
  refine ite2 (fun hle => ?_) (fun hle => ?_)
  · have hle : (b.natAbs : Int) * 2 ^ n ≤ (a.natAbs : Int) := by simpa using hle
    refine ⟨fun ρ' M' => ρ' = [some (.p (.int a)), some (.p (.int b)), some (.m 0), none, none, none] ∧ M' = [.lst ((stps b (n + 2)).map U.p)], fun ρ' M' h => ⟨m - 1, by omega, n + 1, h.1, h.2, by omega, .inr (by simpa using hle)⟩, ?_⟩
    walk_at "v"
    refine ix_at (us := (stps b (n + 1)).map U.p) rfl (stps_last b n) ?_
    walk_at "v"
    refine ⟨.inr ⟨by decide, by decide⟩, by rw [List.length_map, stps_len]; exact small1000 (by omega), ?_⟩
    rw [stps_succ b (n + 1), List.map_append, Int.mul_assoc, ← Int.pow_succ]
    rfl
  · walk_at "v"
    simp only [ea]
    rw [rd_revL]
    walk_at "v"
    refine ⟨stps b (n + 1), by simp [sn], ?_⟩
    walk_at "v"
    have hgt : (a.natAbs : Int) < (b.natAbs : Int) * 2 ^ n := by omega
    have hpw : (0 : Int) < 2 ^ n := Int.pow_pos (by decide)
    refine ufor_list (fun i ρ M => ∃ (x5 : Option U) (found left : Int), ρ = [some (.p (.int a)), some (.p (.int b)), some (.m 0), some (.p (.int left)), some (.p (.int found)), x5] ∧ (a.natAbs : Int) = found * ((b.natAbs : Int) * 2 ^ (n + 1 - i)) + left ∧ 0 ≤ left ∧ left < (b.natAbs : Int) * 2 ^ (n + 1 - i)) ⟨none, 0, _, rfl, by omega, by omega, ?_⟩ ?_ ?_
    · rw [Nat.sub_zero, Int.pow_succ, ← Int.mul_assoc]
      omega
    · rintro i t ρ M ht ⟨x5, found, left, rfl, h1, h2, h3⟩
      have hi : i < n + 1 := by
        have := (List.getElem?_eq_some_iff.mp ht).1
        rwa [List.length_reverse, stps_len] at this
      have et : t = .int ((b.natAbs : Int) * 2 ^ (n - i)) := by
        rw [List.getElem?_reverse (by rw [stps_len]; exact hi), stps_len] at ht
        unfold stps at ht
        rw [List.getElem?_map, List.getElem?_range (by omega)] at ht
        cases ht
        rw [show n + 1 - 1 - i = n - i by omega]
      subst et
      have e2 : n + 1 - i = (n - i) + 1 := by omega
      have e4 : (b.natAbs : Int) * 2 ^ (n + 1 - i) = (b.natAbs : Int) * 2 ^ (n - i) * 2 := by rw [e2, Int.pow_succ, Int.mul_assoc]
      rw [e4] at h1 h3
      have e3 : n + 1 - (i + 1) = n - i := by omega
      rw [e3]
      generalize (b.natAbs : Int) * 2 ^ (n - i) = st at h1 h3 ⊢
      walk_at "v"
      refine ⟨.inr ⟨by decide, by decide⟩, ?_⟩
      walk_at "v"
      refine ⟨.inr ⟨by split <;> decide, by split <;> decide⟩, ?_⟩
      walk_at "v"
      have h1' : (a.natAbs : Int) = found * 2 * st + left := by rw [h1, Int.mul_assoc found 2 st, Int.mul_comm 2 st]
      by_cases hc : st ≤ left
      · refine ⟨_, _, _, rfl, ?_, ?_, ?_⟩
        · simp only [hc, decide_true, if_true]
          rw [Int.add_mul, h1']
          omega
        · simp only [hc, decide_true, if_true]
          omega
        · simp only [hc, decide_true, if_true]
          omega
      · refine ⟨_, _, _, rfl, ?_, ?_, ?_⟩
        · simp only [hc, decide_false, if_false, Bool.false_eq_true]
          rw [Int.add_zero, h1']
          omega
        · simp only [hc, decide_false, if_false, Bool.false_eq_true]
          omega
        · simp only [hc, decide_false, if_false, Bool.false_eq_true]
          omega
    · rintro ρ M ⟨x5, found, left, rfl, h1, h2, h3⟩
      rw [List.length_reverse, stps_len, Nat.sub_self, Int.pow_zero, Int.mul_one] at h1 h3
      walk_at "v"
      refine ite2 (fun hs => ?_) (fun hs => ?_)
      · walk_at "v"
        rw [floor_same hb h1 h2 h3 (by simpa using hs)] at q
        exact q
      · walk_at "v"
        rw [floor_other hb h1 h2 h3 (by simpa using hs)] at q
        simpa using q

theorem op_mulM {X : Cx} : OpR X (binaryOp .Mult) (rI IntMulOk fun i j => .int (i * j)) := opI fun _ _ _ _ _ _ _ hc q => mul_int q hc
theorem sg_at {d : Int} (h0 : 0 ≤ d) (h1 : d < 2) : ∃ sg : Int, atI [T.int 1, T.int (-1)] d = some (.int sg) ∧ (sg = 1 ∨ sg = -1) := by
  rcases (show d = 0 ∨ d = 1 by omega) with rfl | rfl
  · exact ⟨1, rfl, .inl rfl⟩
  · exact ⟨-1, rfl, .inr rfl⟩
theorem sg_ok {s : Int} (h : s = 1 ∨ s = -1) : -(2 ^ 64) < s ∧ s < 2 ^ 64 := by rcases h with rfl | rfl <;> exact ⟨by decide, by decide⟩
theorem anyN_at {M : MM} {k : Nat} {o : MO} {L : List MO} {Q : UK} (hk : k < M.length) (B : BagO o) (q : ∀ (n : Int) (o' : MO), BagO o' → Bt 300 n → Q (.p (.int n)) (MB M k o' L)) : gAnyNumber [.m k] (MB M k o L) Q :=
  ⟨k, o, rfl, MB_bag hk, B, fun x o' B' x0 => by rw [MB_setbag hk]; exact q x o' B' x0⟩
abbrev sTwo : Stmt := top 29
theorem scTwo : FnScope ["bag", "a", "b", "way"] ["bag"] (defScope sTwo) := ⟨rfl, rfl, rfl, by decide +kernel, rfl, by decide +kernel, by decide +kernel⟩
def gTwo : List U → MM → UK → Prop := fun us M Q => ∃ (k : Nat) (o : MO), us = [.m k] ∧ M[k]? = some o ∧ BagO o ∧ ∀ (a b : Int) (o' : MO), BagO o' → Bt 310 a → Bt 310 b → Q (.p (.tup [.int a, .int b])) (M.set k o')
theorem ok_twoU {f : Addr} {fd : FuncData} (F : Fun K "_law_two" "_law_two" sTwo f fd) (N : Nms mg) (DDraw : Def P w K mg base "_law_draw" 1 ["bag", "many"] (spU gDraw)) (DAnyNumber : Def P w K mg base "_law_any_number" 2 ["bag"] (spU gAnyNumber)) : FnOk P w K mg base CX0 3 f fd ["bag"] (spU gTwo) := by
  refine F.zV scTwo (fun us M Qu h => ?_) (fun cdv A outer s H E hr => ?_)
  · obtain ⟨_, _, rfl, _⟩ := h
    rfl
  refine ⟨_, (qss_cons (qs_set (i := 1) scTwo.nd rfl (Or.inl rfl) (qe_def DAnyNumber (hr.mono (by first | decide | exact Nat.le_refl _)) (qa_c (qv 0) qa_nil)))
    (qss_cons (qs_set (i := 2) scTwo.nd rfl (Or.inl rfl) (qe_def DAnyNumber (hr.mono (by first | decide | exact Nat.le_refl _)) (qa_c (qv 0) qa_nil)))
    (qss_cons (qs_set (i := 3) scTwo.nd rfl (Or.inl rfl) (qe_def DDraw (hr.mono (by first | decide | exact Nat.le_refl _)) (qa_c (qv 0) (qa_c qe_int qa_nil))))
    (qss_cons (qs_if (qt_cmpR op_eq (qv 3) qe_int (nomark _))
      (qss_one (qs_set (i := 1) scTwo.nd rfl (Or.inl rfl) (qe_op op_sub (qe_op op_add (qe_op op_mod (qe_op op_mulM (qv 2) (qe_def DAnyNumber (hr.mono (by first | decide | exact Nat.le_refl _)) (qa_c (qv 0) qa_nil))) (qe_op op_pow qe_int qe_int)) (qe_def DDraw (hr.mono (by first | decide | exact Nat.le_refl _)) (qa_c (qv 0) (qa_c qe_int qa_nil)))) qe_int)))
      qss_nil)
    (qss_cons (qs_if (qt_cmpR op_eq (qv 3) qe_int (nomark _))
      (qss_one (qs_set (i := 2) scTwo.nd rfl (Or.inl rfl) (qe_op op_sub (qe_def DDraw (hr.mono (by first | decide | exact Nat.le_refl _)) (qa_c (qv 0) (qa_c qe_int qa_nil))) qe_int)))
      qss_nil)
    (qss_one (qs_ret (qe_tup (qa_c (qe_op op_mul (qv 1) (qe_ix (ix_listK (K := K) rfl) (qe_lst (qa_c qe_int (qa_c (qe_un un_neg qe_int) qa_nil))) (qe_def DDraw (hr.mono (by first | decide | exact Nat.le_refl _)) (qa_c (qv 0) (qa_c qe_int qa_nil))) (fun _ _ => rfl))) (qa_c (qe_op op_mul (qv 2) (qe_ix (ix_listK (K := K) rfl) (qe_lst (qa_c qe_int (qa_c (qe_un un_neg qe_int) qa_nil))) (qe_def DDraw (hr.mono (by first | decide | exact Nat.le_refl _)) (qa_c (qv 0) (qa_c qe_int qa_nil))) (fun _ _ => rfl))) qa_nil)))))))))), _, (cs_seq (cs_asg (ce_callU (ca_cons (ce_var 0) ca_nil)) (cg_name 1))
      (cs_seq (cs_asg (ce_callU (ca_cons (ce_var 0) ca_nil)) (cg_name 2))
      (cs_seq (cs_asg (ce_callU (ca_cons (ce_var 0) (ca_cons (ce_c (.int _)) ca_nil))) (cg_name 3))
      (cs_seq (cs_if (ct_test (ce_op opl_eq (ce_var 3) (ce_c (.int _))))
      (cs_asg (ce_op (opl_I0 fun _ _ => .int _) (ce_op (opl_I0 fun _ _ => .int _) (ce_op (opl_I fun _ _ => .int _) (ce_op (opl_I fun _ _ => .int _) (ce_var 2) (ce_callU (ca_cons (ce_var 0) ca_nil))) (ce_op (opl_I fun _ _ => .int _) (ce_c (.int _)) (ce_c (.int _)))) (ce_callU (ca_cons (ce_var 0) (ca_cons (ce_c (.int _)) ca_nil)))) (ce_c (.int _))) (cg_name 1))
      cs_next)
      (cs_seq (cs_if (ct_test (ce_op opl_eq (ce_var 3) (ce_c (.int _))))
      (cs_asg (ce_op (opl_I0 fun _ _ => .int _) (ce_callU (ca_cons (ce_var 0) (ca_cons (ce_c (.int _)) ca_nil))) (ce_c (.int _))) (cg_name 2))
      cs_next)
      (cs_ret (ce_tup (ca_cons (ce_op (opl_I fun _ _ => .int _) (ce_var 1) (ce_ixL (ce_lst (ca_cons (ce_c (.int _)) (ca_cons (ce_neg (ce_c (.int _))) ca_nil))) (ce_callU (ca_cons (ce_var 0) (ca_cons (ce_c (.int _)) ca_nil))))) (ca_cons (ce_op (opl_I fun _ _ => .int _) (ce_var 2) (ce_ixL (ce_lst (ca_cons (ce_c (.int _)) (ca_cons (ce_neg (ce_c (.int _))) ca_nil))) (ce_callU (ca_cons (ce_var 0) (ca_cons (ce_c (.int _)) ca_nil))))) ca_nil))))))))), fun us M M1 Qu e1 h => ?_⟩
  obtain ⟨k, o, rfl, em, hB, post⟩ := h
  obtain ⟨hkl, eM⟩ := MB_start em
  rw [e1.trans eM]
  walk_at "v"
  refine anyN_at hkl hB fun a o1 B1 ha => ?_
  have ha := ha.mono (m := 310) (by decide)
  walk_at "v"
  refine anyN_at hkl B1 fun b o2 B2 hb => ?_
  have hb := hb.mono (m := 310) (by decide)
  walk_at "v"
  refine draw_at hkl B2 (by decide) (by decide) fun wy o3 w0 w1 B3 => ?_
  walk_at "v"
  refine ite2 (fun h0 => ?_) (fun h0 => ?_)
  · have h0 : wy = 0 := by simpa using h0
    subst h0
    walk_at "v"
    refine anyN_at hkl B3 fun c o4 B4 hc => ?_
    walk_at "v"
    refine ⟨.of_bits (Nat.le_trans hb.bits (by decide)) (Nat.le_trans hc.bits (by decide)), ?_⟩
    walk_at "v"
    refine ⟨⟨by decide, by decide, by decide⟩, by decide +kernel, ?_⟩
    refine draw_at hkl B4 (by decide) (by decide) fun d o5 d0 d1 B5 => ?_
    have h59 : Bt 309 ((10 : Int) ^ Int.toNat 59) := by unfold Bt; decide +kernel
    have p59 : (0 : Int) < (10 : Int) ^ Int.toNat 59 := by decide +kernel
    have hm : Bt 309 (b * c % 10 ^ Int.toNat 59) := h59.nonneg_le (Int.emod_nonneg _ (by omega)) (Int.le_of_lt (Int.emod_lt_of_pos _ p59))
    have ha2 : Bt 310 (b * c % 10 ^ Int.toNat 59 + d - 1) := by
      rw [show b * c % 10 ^ Int.toNat 59 + d - 1 = b * c % 10 ^ Int.toNat 59 + (d - 1) by omega]
      exact (hm.add (Bt.small (i := d - 1) (n := 62) (by omega) (by omega) (by decide))).mono (by decide)
    walk_at "v"
    refine ite2 (fun h1 => absurd h1 (by decide)) (fun h1 => ?_)
    walk_at "v"
    refine draw_at hkl B5 (by decide) (by decide) fun s1 p1 s10 s11 C1 => ?_
    obtain ⟨g1, hg1, hs1⟩ := sg_at s10 s11
    refine ixl_at hg1 ?_
    walk_at "v"
    refine ⟨.inr (sg_ok hs1), ?_⟩
    refine draw_at hkl C1 (by decide) (by decide) fun s2 p2 s20 s21 C2 => ?_
    obtain ⟨g2, hg2, hs2⟩ := sg_at s20 s21
    refine ixl_at hg2 ?_
    walk_at "v"
    refine ⟨.inr (sg_ok hs2), ?_⟩
    walk_at "v"
    refine ⟨MB_trim C2.pur, ?_⟩
    rw [MB_take]
    exact post _ _ p2 C2 (ha2.signR hs1) (hb.signR hs2)
  · walk_at "v"
    refine ite2 (fun h1 => ?_) (fun h1 => ?_)
    · refine draw_at hkl B3 (by decide) (by decide) fun d o5 d0 d1 B5 => ?_
      have hb2 : Bt 310 (d - 3) := Bt.small (by omega) (by omega) (by decide)
      walk_at "v"
      refine draw_at hkl B5 (by decide) (by decide) fun s1 p1 s10 s11 C1 => ?_
      obtain ⟨g1, hg1, hs1⟩ := sg_at s10 s11
      refine ixl_at hg1 ?_
      walk_at "v"
      refine ⟨.inr (sg_ok hs1), ?_⟩
      refine draw_at hkl C1 (by decide) (by decide) fun s2 p2 s20 s21 C2 => ?_
      obtain ⟨g2, hg2, hs2⟩ := sg_at s20 s21
      refine ixl_at hg2 ?_
      walk_at "v"
      refine ⟨.inr (sg_ok hs2), ?_⟩
      walk_at "v"
      refine ⟨MB_trim C2.pur, ?_⟩
      rw [MB_take]
      exact post _ _ p2 C2 (ha.signR hs1) (hb2.signR hs2)
    · walk_at "v"
      refine draw_at hkl B3 (by decide) (by decide) fun s1 p1 s10 s11 C1 => ?_
      obtain ⟨g1, hg1, hs1⟩ := sg_at s10 s11
      refine ixl_at hg1 ?_
      walk_at "v"
      refine ⟨.inr (sg_ok hs1), ?_⟩
      refine draw_at hkl C1 (by decide) (by decide) fun s2 p2 s20 s21 C2 => ?_
      obtain ⟨g2, hg2, hs2⟩ := sg_at s20 s21
      refine ixl_at hg2 ?_
      walk_at "v"
      refine ⟨.inr (sg_ok hs2), ?_⟩
      walk_at "v"
      refine ⟨MB_trim C2.pur, ?_⟩
      rw [MB_take]
      exact post _ _ p2 C2 (ha.signR hs1) (hb.signR hs2)

def spLaw (K : PySem.W.Frag) : Sp := fun vs H Q _ => ∃ (a : Addr) (ns : List Int), vs = [.ref a] ∧ SqL K H a (ns.map V.int) ∧ ns.length ≤ 63 ∧ ∀ H', Q (.bl true) H'
/-- the law itself: its bag is drawn at the heap, the rest is read over trees -/
theorem law_okU {st : Stmt} {f : Addr} {fd : FuncData} {N : List Str} {k : Nat} (F : Fun K "law" "law" st f fd) (S : FnScope N ["script"] (defScope st)) (hN : 2 ≤ N.length)
    (hbody : ∀ (cdv : Value) (A : Around) (outer : List Env) (s : Shared) (H : Hp) (E : XK), Room k (A.deeper (envOfC "law" (defScope st) s.heap.objs.size f cdv)) →
      ∃ tR, QSs (cxOf CX0 P w K mg base N "law" (defScope st) f cdv A outer s H E).nox (defBody st) (tSeq (tAsg (tCall (spBag K) [] E0 (tCons (tVar 0) tNil)) (gName 1)) tR) ∧ ∃ uR, ZS tR uR ∧ ∀ o, BagO o → uR { nx := fun _ _ => False, rt := fun z _ => z = .p (.bl true) } (none :: some (.m 0) :: List.replicate (N.length - 2) none) [o]) : FnOk P w K mg base CX0 (k + 1) f fd ["script"] (spLaw K) := by
  refine F.okQ S (fun vs H Q E h => ?_) (fun cdv A outer s H vs Q E hr h => ?_)
  · obtain ⟨_, _, rfl, _⟩ := h
    rfl
  · obtain ⟨a, ns, rfl, hS, hlen, k⟩ := h
    obtain ⟨tR, hT, uR, hU, hq⟩ := hbody cdv A outer s H E hr
    refine ⟨_, hT, ?_⟩
    have hN2 : L2.start N [.ref a] = some (.ref a) :: none :: List.replicate (N.length - 2) none := by
      unfold L2.start
      obtain ⟨m, hm⟩ : ∃ m, N.length = m + 2 := ⟨N.length - 2, by omega⟩
      rw [hm]
      rfl
    rw [hN2]
    simp only [tSeq, tAsg, tCall, tCons, tNil, tVar, gName, List.getElem?_cons_zero, Option.some.injEq, exists_eq_left', List.append_nil, List.set_cons_zero, List.set_cons_succ]
    refine ⟨a, ns, rfl, hS, hlen, fun b H1 hb s1 B1 => ?_⟩
    obtain ⟨c, ns', i, a', st', n, hbb, hcc, r⟩ := id B1.ex
    have ncb : c ≠ b := bag_ne hbb hcc
    obtain ⟨o, hbo, ro, _⟩ := bag_back (A := fun _ => False) (ι := [b]) B1 ⟨_, hbb⟩ (fun z => z.elim id fun z => ncb (by simpa using z))
    have w1 : L2.Wd (fun _ => False) [b] H1 [o] := ⟨by simp, rfl, fun x hx => hx.elim, fun x _ z => z, fun k a2 o2 e1 e2 => by
      match k, e1, e2 with
      | 0, e1, e2 => cases e1; cases e2; exact ro
      | k + 1, e1, _ => simp at e1⟩
    have env : EnvR (fun _ => False) [b] H1 (some (.ref a) :: some (.ref b) :: List.replicate (N.length - 2) none) (none :: some (.m 0) :: List.replicate (N.length - 2) none) := by
      refine .cons (fun u e => by cases e) (.cons (fun u e => by cases e; exact ⟨_, rfl, .m rfl⟩) ?_)
      generalize N.length - 2 = m
      induction m with
      | zero => exact .nil
      | succ m ih => exact .cons (fun u e => by cases e) ih
    refine hU.h (fun _ => False) [b] _ H1 _ [o] _ { nx := fun _ _ => False, rt := fun z _ => z = .p (.bl true) } w1 env ⟨fun _ _ _ _ _ _ _ _ q => q.elim, fun ι v H2 u M _ _ ru q => ?_, fun _ _ _ _ _ _ _ _ q => q.elim, fun _ _ _ _ _ _ _ _ q => q.elim⟩ (hq o hbo)
    have q : u = .p (.bl true) := q
    subst q
    cases ru with
    | p r => cases r; exact k H2
abbrev sLaw : Stmt := top 30
theorem scLaw : FnScope ["script", "bag", "k", "a", "b", "r", "q", "p", "store", "own", "deed", "word", "due"] ["script"] (defScope sLaw) := ⟨rfl, rfl, rfl, by decide +kernel, rfl, by decide +kernel, by decide +kernel⟩
def ws0 : List Wt := List.replicate 8 (.one "none")
/-- the law's things: the bag first, somewhere the store and the law's own -/
structure Run (CP : Addr) (M : MM) (ks kh ko kb kc : Nat) (o : MO) (ws : List Wt) : Prop where
  b : M[0]? = some o
  B : BagO o
  W : Two CP M ks kh ko kb kc ws
  p : 0 < ks ∧ 0 < kh ∧ 0 < ko ∧ 0 < kb
section
variable {CP : Addr} {M : MM} {ks kh ko kb kc : Nat} {o o' : MO} {ws ws' : List Wt} {Q : UK} {d ans : T}
theorem Run.draw (R : Run CP M ks kh ko kb kc o ws) (B' : BagO o') : Run CP (M.set 0 o') ks kh ko kb kc o' ws := by
  obtain ⟨p1, p2, p3, p4⟩ := R.p
  exact ⟨List.getElem?_set_self (List.getElem?_eq_some_iff.mp R.b).1, B', ⟨R.W.S.set (by omega) (by omega), R.W.O.set (by omega) (by omega), R.W.d⟩, R.p⟩
theorem Run.up (R : Run CP M ks kh ko kb kc o ws) (hn : ws'.length = ws.length) : Run CP ((M.set kh (lw ws')).set kb (lw ws')) ks kh ko kb kc o ws' := by
  obtain ⟨p1, p2, p3, p4⟩ := R.p
  exact ⟨by rw [List.getElem?_set_ne (by omega), List.getElem?_set_ne (by omega)]; exact R.b, R.B, R.W.up hn, R.p⟩
theorem Run.drawS (R : Run CP M ks kh ko kb kc o ws) {many : Int} (h0 : 0 < many) (h1 : many.natAbs.log2 < 9000) (q : ∀ (M' : MM) (found : Int) (o' : MO), 0 ≤ found → found < many → Run CP M' ks kh ko kb kc o' ws → Q (.p (.int found)) M') : gDraw [.m 0, .p (.int many)] M Q :=
  ⟨0, o, many, rfl, R.b, R.B, h0, h1, fun f o' f0 f1 B' => q _ f o' f0 f1 (R.draw B')⟩
theorem Run.numS (R : Run CP M ks kh ko kb kc o ws) {r : Nat} {n : Int} (hr : r < 8) (q : ∀ M' : MM, Run CP M' ks kh ko kb kc o (ws.set r (.num n)) → Q (.p (.bl true)) M') : gBoth CP [.m ks, .m ko, .p (.tup [.str "number", .int (r : Int), .int n])] M Q :=
  ⟨ks, kh, ko, kb, kc, ws, _, rfl, R.W, .inl ⟨r, n, rfl, hr, q _ (R.up List.length_set)⟩⟩
theorem Run.sameS (R : Run CP M ks kh ko kb kc o ws) {k : Nat} (q : Q (.p (.bl true)) M) : gAllSame CP [.m ks, .m ko, .p (.int (k : Int))] M Q := ⟨ks, kh, ko, kb, kc, ws, k, rfl, R.W, q⟩
end
theorem set_mid {α : Type} {l : List α} {x y z : α} : (l ++ [x, y]).set l.length z = l ++ [z, y] := by
  rw [List.set_append_right _ _ (Nat.le_refl _), Nat.sub_self]
  rfl
def NewM (CP : Addr) (M : MM) : MM := M ++ [.ins CP [("held", .m (M.length + 1))], lw ws0, lw ws0, .lst [], .lst [.m (M.length + 2), .m (M.length + 3)]]
theorem app_at {α : Type} {l m : List α} {i : Nat} : (l ++ m)[l.length + i]? = m[i]? := by rw [List.getElem?_append_right (by omega), Nat.add_sub_cancel_left]
theorem run_new {CP : Addr} {M : MM} {o : MO} (h : M[0]? = some o) (B : BagO o) : Run CP (NewM CP M) M.length (M.length + 1) (M.length + 4) (M.length + 2) (M.length + 3) o ws0 := by
  have hl := (List.getElem?_eq_some_iff.mp h).1
  unfold NewM
  exact ⟨by rw [List.getElem?_append_left hl]; exact h, B, ⟨⟨app_at (i := 0), app_at (i := 1), rfl⟩, ⟨app_at (i := 4), app_at (i := 2), rfl⟩, by omega⟩, by omega⟩
def wsj (q p : Nat) (a b : Int) : Nat → List Wt
  | 0 => ws0
  | 1 => ws0.set q (.num a)
  | _ => (ws0.set q (.num a)).set p (.num b)
theorem wsj_p {q p : Nat} {a b : Int} (hp : p < 8) : (wsj q p a b 2)[p]? = some (.num b) := by
  show ((ws0.set q (.num a)).set p (.num b))[p]? = _
  exact List.getElem?_set_self (by rw [List.length_set]; exact hp)
theorem wsj_q {q p : Nat} {a b : Int} (hq : q < 8) (ha : Bt 310 a) (hb : Bt 310 b) : ∃ a2, (wsj q p a b 2)[q]? = some (.num a2) ∧ Bt 310 a2 := by
  show ∃ a2, ((ws0.set q (.num a)).set p (.num b))[q]? = some (.num a2) ∧ Bt 310 a2
  by_cases e : p = q
  · subst e
    exact ⟨b, List.getElem?_set_self (by rw [List.length_set]; exact hq), hb⟩
  · exact ⟨a, by rw [List.getElem?_set_ne e]; exact List.getElem?_set_self (show q < 8 from hq), ha⟩
theorem bt_log {n : Int} (h : Bt 310 n) : n.natAbs.log2 < 9000 := by
  unfold Bt at h
  by_cases hz : n.natAbs = 0
  · rw [hz]; decide
  · have := (Nat.log2_lt hz).mpr h
    omega
theorem bt_fdiv {n : Nat} {a b : Int} (ha : Bt n a) (hb : b ≠ 0) : Bt (n + 1) (a.fdiv b) := by
  unfold Bt at ha ⊢
  have key : ∀ {x y : Int}, 0 < y → x.natAbs < 2 ^ n → (x.fdiv y).natAbs < 2 ^ (n + 1) := fun {x y} hy hx => by
    rw [Int.fdiv_eq_ediv_of_nonneg x (by omega)]
    have h1 := Int.natAbs_ediv_le_natAbs x y
    rw [Nat.pow_succ]; omega
  rcases Int.lt_or_lt_of_ne hb with h | h
  · rw [← Int.neg_fdiv_neg]
    exact key (by omega) (by rwa [Int.natAbs_neg])
  · exact key h ha
local macro_rules | `(tactic| walk_at "pk") => `(tactic| (walk_at "v"; repeat ((first | refine ite_no (by decide) ?_ | refine ite_yes rfl ?_); walk_at "v")))
theorem ok_lawU {CP : Addr} {f : Addr} {fd : FuncData} (F : Fun K "law" "law" sLaw f fd) (N : Nms mg) (KPlainStore : MkDef P w K mg base CP "PlainStore" 1 ["self"] (spU (gPInit CP))) (DBag : Def P w K mg base "_law_bag" 1 ["script"] (spBag K)) (DDraw : Def P w K mg base "_law_draw" 1 ["bag", "many"] (spU gDraw)) (DTwo : Def P w K mg base "_law_two" 3 ["bag"] (spU gTwo)) (DFloor : Def P w K mg base "_law_floor" 1 ["a", "b"] (spP gFloor)) (DAlike : Def P w K mg base "_law_alike" 4 ["found", "due"] (spP (gAlike 3))) (DDone : Def P w K mg base "_law_done" 7 ["store", "deed"] (spU (gDone CP))) (DAllSame : Def P w K mg base "_law_all_same" 9 ["store", "own", "turn"] (spU (gAllSame CP))) (DBoth : Def P w K mg base "_law_both" 8 ["store", "own", "deed"] (spU (gBoth CP))) : FnOk P w K mg base CX0 10 f fd ["script"] (spLaw K) := by
  refine law_okU F scLaw (by decide) (fun cdv A outer s H E hr => ?_)
  refine ⟨_, (qss_cons (qs_set (i := 1) scLaw.nd rfl (Or.inl rfl) (qe_def DBag (hr.mono (by first | decide | exact Nat.le_refl _)) (qa_c (qv 0) qa_nil)))
    (qss_cons (qs_for PassesOwn.never rfl (qi_range1 rfl N.range (qa_c qe_int qa_nil)) (qg_name (i := 2) scLaw.nd rfl (Or.inl rfl))
      (qss_one (qs_if (qw_pt (qw_or (qt_cmpR op_lt (qv 2) qe_int (nomark _)) (qw_or1 (qt_cmpR op_lt (qe_ix (ix_listK (K := K) rfl) (qv 1) qe_int (fun _ _ => rfl)) (qe_callB call_lenL (by rfl) N.len b_len (qa_c (qe_ix (ix_listK (K := K) rfl) (qv 1) qe_int (fun _ _ => rfl)) qa_nil)) (nomark _)))))
        (qss_cons (qs_asg (qe_def DTwo (hr.mono (by first | decide | exact Nat.le_refl _)) (qa_c (qv 1) qa_nil)) (qg_t2K (K := K) (i := 3) (j := 4) rfl scLaw.nd rfl rfl rfl (Or.inl rfl) (Or.inl rfl) (Or.inl rfl) (Or.inl rfl)))
        (qss_cons (qs_par (i := 5) (j := 6) rfl scLaw.nd rfl rfl (by decide) rfl rfl (qa_c (qe_def DDraw (hr.mono (by first | decide | exact Nat.le_refl _)) (qa_c (qv 1) (qa_c qe_int qa_nil))) (qa_c (qe_def DDraw (hr.mono (by first | decide | exact Nat.le_refl _)) (qa_c (qv 1) (qa_c qe_int qa_nil))) qa_nil)) rfl)
        (qss_cons (qs_set (i := 7) scLaw.nd rfl (Or.inl rfl) (qe_op op_mod (qe_op op_add (qv 6) (qe_def DDraw (hr.mono (by first | decide | exact Nat.le_refl _)) (qa_c (qv 1) (qa_c qe_int qa_nil)))) qe_int))
        (qss_cons (qs_set (i := 8) scLaw.nd rfl (Or.inl rfl) (qe_mk0 KPlainStore (hr.mono (by first | decide | exact Nat.le_refl _)) rfl))
        (qss_cons (qs_set (i := 9) scLaw.nd rfl (Or.inl rfl) (qe_lst (qa_c (qe_op op_rep (qe_lst (qa_c qe_str qa_nil)) qe_int) (qa_c (qe_lst qa_nil) qa_nil))))
        (qss_cons (qs_for PassesOwn.never rfl (qi_listK (K := K) rfl (qe_lst (qa_c (qe_tup (qa_c qe_str (qa_c (qv 6) (qa_c (qv 3) qa_nil)))) (qa_c (qe_tup (qa_c qe_str (qa_c (qv 7) (qa_c (qv 4) qa_nil)))) qa_nil)))) (qg_name (i := 10) scLaw.nd rfl (Or.inl rfl))
          (qss_one (qs_if (qt_not (qt_val (qe_def DBoth (hr.mono (by first | decide | exact Nat.le_refl _)) (qa_c (qv 8) (qa_c (qv 9) (qa_c (qv 10) qa_nil))))))
            (qss_one (qs_ret qe_bl))
            qss_nil)))
        (qss_cons (qs_par (i := 3) (j := 4) rfl scLaw.nd rfl rfl (by decide) rfl rfl (qa_c (qe_ix (ix_listK (K := K) rfl) (qe_ix (ix_listK (K := K) rfl) (qv 9) qe_int (fun _ _ => rfl)) (qv 6) (fun _ _ => rfl)) (qa_c (qe_ix (ix_listK (K := K) rfl) (qe_ix (ix_listK (K := K) rfl) (qv 9) qe_int (fun _ _ => rfl)) (qv 7) (fun _ _ => rfl)) qa_nil)) rfl)
        (qss_cons (qs_set (i := 11) scLaw.nd rfl (Or.inl rfl) (qe_ix (ix_listK (K := K) rfl) (qe_lst (qa_c qe_str (qa_c qe_str qa_nil))) (qe_def DDraw (hr.mono (by first | decide | exact Nat.le_refl _)) (qa_c (qv 1) (qa_c qe_int qa_nil))) (fun _ _ => rfl)))
        (qss_cons (qs_set (i := 12) scLaw.nd rfl (Or.inl rfl) (qe_tup (qa_c qe_str (qa_c qe_non qa_nil))))
        (qss_cons (qs_if (qt_cmpR op_ne (qv 4) qe_int (nomark _))
          (qss_cons (qs_set (i := 12) scLaw.nd rfl (Or.inl rfl) (qe_tup (qa_c qe_str (qa_c qe_non qa_nil))))
          (qss_one (qs_asg (qe_ifExp (qt_cmpR op_eq (qv 11) qe_str (nomark _)) (qe_def DFloor (hr.mono (by first | decide | exact Nat.le_refl _)) (qa_c (qv 3) (qa_c (qv 4) qa_nil))) (qe_op op_sub (qv 3) (qe_op op_mulM (qv 4) (qe_def DFloor (hr.mono (by first | decide | exact Nat.le_refl _)) (qa_c (qv 3) (qa_c (qv 4) qa_nil)))))) (qg_sub (qe_ix (ix_listK (K := K) rfl) (qv 9) qe_int (fun _ _ => rfl)) (qv 5) set_list))))
          qss_nil)
        (qss_one (qs_if (qw_pt (qw_or (qt_not (qt_val (qe_def DAlike (hr.mono (by first | decide | exact Nat.le_refl _)) (qa_c (qe_def DDone (hr.mono (by first | decide | exact Nat.le_refl _)) (qa_c (qv 8) (qa_c (qe_tup (qa_c (qv 11) (qa_c (qv 5) (qa_c (qv 6) (qa_c (qv 7) qa_nil))))) qa_nil))) (qa_c (qv 12) qa_nil))))) (qw_or1 (qt_not (qt_val (qe_def DAllSame (hr.mono (by first | decide | exact Nat.le_refl _)) (qa_c (qv 8) (qa_c (qv 9) (qa_c (qv 2) qa_nil)))))))))
          (qss_one (qs_ret qe_bl))
          qss_nil))))))))))))
        qss_nil)))
    (qss_one (qs_ret qe_bl)))), _, (cs_seq (cs_for (ci_rng1 (ca_cons (ce_c (.int _)) ca_nil)) (cg_name 2)
      (cs_if (ct_or (ct_test (ce_op (opl_I0 fun _ _ => .bl _) (ce_var 2) (ce_c (.int _)))) (ct_test (ce_op (opl_I0 fun _ _ => .bl _) (ce_ixL (ce_var 1) (ce_c (.int _))) (ce_len (ca_cons (ce_ixL (ce_var 1) (ce_c (.int _))) ca_nil)))))
      (cs_seq (cs_asg (ce_callU (ca_cons (ce_var 1) ca_nil)) (cg_name2 3 4))
      (cs_seq (cs_par (ca_cons (ce_callU (ca_cons (ce_var 1) (ca_cons (ce_c (.int _)) ca_nil))) (ca_cons (ce_callU (ca_cons (ce_var 1) (ca_cons (ce_c (.int _)) ca_nil))) ca_nil)))
      (cs_seq (cs_asg (ce_op (opl_I fun _ _ => .int _) (ce_op (opl_I0 fun _ _ => .int _) (ce_var 6) (ce_callU (ca_cons (ce_var 1) (ca_cons (ce_c (.int _)) ca_nil)))) (ce_c (.int _))) (cg_name 7))
      (cs_seq (cs_asg (ce_make ca_nil) (cg_name 8))
      (cs_seq (cs_asg (ce_new (ca_cons (ce_repNew (ce_lst (ca_cons (ce_c (.str _)) ca_nil)) (ce_c (.int _))) (ca_cons (ce_new ca_nil) ca_nil))) (cg_name 9))
      (cs_seq (cs_for (ci_list (ce_lst (ca_cons (ce_tup (ca_cons (ce_c (.str _)) (ca_cons (ce_var 6) (ca_cons (ce_var 3) ca_nil)))) (ca_cons (ce_tup (ca_cons (ce_c (.str _)) (ca_cons (ce_var 7) (ca_cons (ce_var 4) ca_nil)))) ca_nil)))) (cg_name 10)
      (cs_if (ct_not (ct_b (ce_callU (ca_cons (ce_var 8) (ca_cons (ce_var 9) (ca_cons (ce_var 10) ca_nil))))))
      (cs_ret (ce_c (.bl _)))
      cs_next))
      (cs_seq (cs_par (ca_cons (ce_ixL (ce_ixL (ce_var 9) (ce_c (.int _))) (ce_var 6)) (ca_cons (ce_ixL (ce_ixL (ce_var 9) (ce_c (.int _))) (ce_var 7)) ca_nil)))
      (cs_seq (cs_asg (ce_ixL (ce_lst (ca_cons (ce_c (.str _)) (ca_cons (ce_c (.str _)) ca_nil))) (ce_callU (ca_cons (ce_var 1) (ca_cons (ce_c (.int _)) ca_nil)))) (cg_name 11))
      (cs_seq (cs_asg (ce_tup (ca_cons (ce_c (.str _)) (ca_cons (ce_c .non) ca_nil))) (cg_name 12))
      (cs_seq (cs_if (ct_test (ce_op opl_ne (ce_var 4) (ce_c (.int _))))
      (cs_seq (cs_asg (ce_tup (ca_cons (ce_c (.str _)) (ca_cons (ce_c .non) ca_nil))) (cg_name 12))
      (cs_asg (ce_if (ct_test (ce_op opl_eq (ce_var 11) (ce_c (.str _)))) (ce_callP (ca_cons (ce_var 3) (ca_cons (ce_var 4) ca_nil))) (ce_op (opl_I0 fun _ _ => .int _) (ce_var 3) (ce_op (opl_I fun _ _ => .int _) (ce_var 4) (ce_callP (ca_cons (ce_var 3) (ca_cons (ce_var 4) ca_nil)))))) (cg_sub (ce_ixL (ce_var 9) (ce_c (.int _))) (ce_var 5))))
      cs_next)
      (cs_if (ct_or (ct_not (ct_b (ce_callP (ca_cons (ce_callU (ca_cons (ce_var 8) (ca_cons (ce_tup (ca_cons (ce_var 11) (ca_cons (ce_var 5) (ca_cons (ce_var 6) (ca_cons (ce_var 7) ca_nil))))) ca_nil))) (ca_cons (ce_var 12) ca_nil))))) (ct_not (ct_b (ce_callU (ca_cons (ce_var 8) (ca_cons (ce_var 9) (ca_cons (ce_var 2) ca_nil)))))))
      (cs_ret (ce_c (.bl _)))
      cs_next)))))))))))
      cs_next))
      (cs_ret (ce_c (.bl _)))), fun o B => ?_⟩
  walk_at "v"
  refine rng_at (by decide) (by decide) ?_
  refine ufor_rng (fun i ρ M' => ∃ x2 x3 x4 x5 x6 x7 x8 x9 x10 x11 x12 o, ρ = [none, some (.m 0), x2, x3, x4, x5, x6, x7, x8, x9, x10, x11, x12] ∧ M'[0]? = some o ∧ BagO o) ⟨_, _, _, _, _, _, _, _, _, _, _, o, rfl, rfl, B⟩ ?_ ?_
  · rintro i ρ M' hi ⟨x2, x3, x4, x5, x6, x7, x8, x9, x10, x11, x12, o1, rfl, hb, B1⟩
    walk_at "v"
    refine ite2 (fun h10 => ?_) (fun h10 => ?_)
    · skip
      walk_at "v"
      refine ⟨0, o1, rfl, hb, B1, fun a b o2 B2 ha hbb => ?_⟩
      have hb2 : (M'.set 0 o2)[0]? = some o2 := List.getElem?_set_self (List.getElem?_eq_some_iff.mp hb).1
      generalize M'.set 0 o2 = M1 at hb2 ⊢
      walk_at "v"
      refine ⟨0, o2, 8, rfl, hb2, B2, by decide, by decide, fun r o3 r0 r1 B3 => ?_⟩
      have hb3 : (M1.set 0 o3)[0]? = some o3 := List.getElem?_set_self (List.getElem?_eq_some_iff.mp hb2).1
      generalize M1.set 0 o3 = M2 at hb3 ⊢
      obtain ⟨r, rfl⟩ : ∃ j : Nat, r = (j : Int) := ⟨r.toNat, by omega⟩
      have hr8 : r < 8 := by omega
      walk_at "v"
      refine ⟨0, o3, 8, rfl, hb3, B3, by decide, by decide, fun q o4 q0 q1 B4 => ?_⟩
      have hb4 : (M2.set 0 o4)[0]? = some o4 := List.getElem?_set_self (List.getElem?_eq_some_iff.mp hb3).1
      generalize M2.set 0 o4 = M3 at hb4 ⊢
      obtain ⟨q, rfl⟩ : ∃ j : Nat, q = (j : Int) := ⟨q.toNat, by omega⟩
      have hq8 : q < 8 := by omega
      walk_at "v"
      refine ⟨0, o4, 8, rfl, hb4, B4, by decide, by decide, fun d o5 d0 d1 B5 => ?_⟩
      have hb5 : (M3.set 0 o5)[0]? = some o5 := List.getElem?_set_self (List.getElem?_eq_some_iff.mp hb4).1
      generalize M3.set 0 o5 = M4 at hb5 ⊢
      walk_at "v"
      refine ⟨by decide, ?_⟩
      obtain ⟨p, hp⟩ : ∃ j : Nat, ((q : Int) + d) % 8 = (j : Int) := ⟨(((q : Int) + d) % 8).toNat, by omega⟩
      have hp8 : p < 8 := by omega
      rw [hp]
      walk_at "v"
      refine ⟨M4.length, rfl, get_last, ?_⟩
      refine ⟨rfl, ?_⟩
      walk_at "v"
      refine repN_at (by decide) (by decide) (by decide) ?_
      simp only [set_mid, List.length_append, List.length_cons, List.length_nil, List.append_assoc, List.cons_append, List.nil_append, Nat.reduceAdd]
      show uSeq _ _ _ [none, some (.m 0), some (.p (.int (i : Int))), some (.p (.int a)), some (.p (.int b)), some (.p (.int (r : Int))), some (.p (.int (q : Int))), some (.p (.int (p : Int))), some (.m M4.length), some (.m (M4.length + 4)), x10, x11, x12] (NewM CP M4)
      have R0 := run_new (CP := CP) hb5 B5
      generalize NewM CP M4 = M5 at R0 ⊢
      generalize M4.length = n0 at R0 ⊢
      walk_at "v"
      refine ufor_list (fun j ρ M => ∃ x10, ρ = [none, some (.m 0), some (.p (.int (i : Int))), some (.p (.int a)), some (.p (.int b)), some (.p (.int (r : Int))), some (.p (.int (q : Int))), some (.p (.int (p : Int))), some (.m n0), some (.m (n0 + 4)), x10, x11, x12] ∧ Run CP M n0 (n0 + 1) (n0 + 4) (n0 + 2) (n0 + 3) o5 (wsj q p a b j)) ⟨_, rfl, R0⟩ ?_ ?_
      · rintro j t ρ M ht ⟨y10, rfl, R⟩
        match j, ht, R with
        | 0, ht, R =>
          cases ht
          walk_at "v"
          refine R.numS hq8 fun M6 R6 => ?_
          walk_at "v"
          exact ⟨_, rfl, R6⟩
        | 1, ht, R =>
          cases ht
          walk_at "v"
          refine R.numS hp8 fun M6 R6 => ?_
          walk_at "v"
          exact ⟨_, rfl, R6⟩
        | j + 2, ht, R => simp at ht
      rintro ρ M ⟨y10, rfl, R3⟩
      obtain ⟨a2, hq2, ha2⟩ := wsj_q (q := q) (p := p) (a := a) (b := b) hq8 ha hbb
      have hp2 := wsj_p (q := q) (p := p) (a := a) (b := b) hp8
      have R3 : Run CP M n0 (n0 + 1) (n0 + 4) (n0 + 2) (n0 + 3) o5 (wsj q p a b 2) := R3
      generalize wsj q p a b 2 = ws2 at R3 hq2 hp2
      have hlog : b.natAbs.log2 < 9000 := bt_log hbb
      walk_at "v"
      refine own0_at R3.W.O ?_
      walk_at "v"
      refine wix_at R3.W.O.b hq2 ?_
      refine own0_at R3.W.O ?_
      walk_at "v"
      refine wix_at R3.W.O.b hp2 ?_
      simp only [tW]
      walk_at "v"
      refine R3.drawS (by decide) (by decide) fun M8 wd o6 w0 w1 R4 => ?_
      rcases (show wd = 0 ∨ wd = 1 by omega) with rfl | rfl
      · refine ixl_at rfl ?_
        walk_at "v"
        refine ite2 (fun hz => ?_) (fun hz => ?_)
        · have hb0 : b ≠ 0 := by simpa using hz
          walk_at "pk"
          refine ⟨a2, b, rfl, hb0, ha2.mono (by decide), hbb.mono (by decide), ?_⟩
          walk_at "pk"
          refine own0_at R4.W.O ?_
          walk_at "pk"
          refine wput_at (x := .num (a2.fdiv b)) R4.W.O.b (by rw [R4.W.O.n]; exact hr8) ?_
          walk_at "pk"
          refine ⟨n0, n0 + 1, ws2, _, rfl, R4.W.S.set (by omega) (by omega), .inl ⟨_, .over r q p a2 b hr8 hq2 hp2 hb0 (PyProof.noPylong_of_log2 hlog), ?_⟩⟩
          rw [List.set_comm _ _ (show n0 + 2 ≠ n0 + 1 by omega)]
          have R5 := R4.up (ws' := ws2.set r (.num (a2.fdiv b))) List.length_set
          generalize (List.set (List.set _ (n0 + 1) _) (n0 + 2) _) = M9 at R5 ⊢
          walk_at "v"
          refine ⟨_, rfl, dep_pair trivial trivial, ?_⟩
          walk_at "v"
          refine R5.sameS ?_
          walk_at "v"
          exact ⟨_, _, _, _, _, _, _, _, _, _, _, _, rfl, R5.b, R5.B⟩
        · have hb0 : b = 0 := by simpa using hz
          subst hb0
          walk_at "pk"
          refine ⟨n0, n0 + 1, ws2, _, rfl, R4.W.S, .inr (.inr ⟨.over r q p a2 hq2 hp2, ?_⟩)⟩
          walk_at "v"
          refine ⟨_, rfl, dep_pair trivial trivial, ?_⟩
          walk_at "v"
          refine R4.sameS ?_
          walk_at "v"
          exact ⟨_, _, _, _, _, _, _, _, _, _, _, _, rfl, R4.b, R4.B⟩
      · refine ixl_at rfl ?_
        walk_at "v"
        refine ite2 (fun hz => ?_) (fun hz => ?_)
        · have hb0 : b ≠ 0 := by simpa using hz
          walk_at "pk"
          refine ⟨a2, b, rfl, hb0, ha2.mono (by decide), hbb.mono (by decide), ?_⟩
          walk_at "pk"
          refine ⟨.of_bits (Nat.le_trans hbb.bits (by decide)) (Nat.le_trans (bt_fdiv ha2 hb0).bits (by decide)), ?_⟩
          rw [← Int.fmod_def]
          walk_at "pk"
          refine own0_at R4.W.O ?_
          walk_at "pk"
          refine wput_at (x := .num (a2.fmod b)) R4.W.O.b (by rw [R4.W.O.n]; exact hr8) ?_
          walk_at "pk"
          refine ⟨n0, n0 + 1, ws2, _, rfl, R4.W.S.set (by omega) (by omega), .inl ⟨_, .rest r q p a2 b hr8 hq2 hp2 hb0, ?_⟩⟩
          rw [List.set_comm _ _ (show n0 + 2 ≠ n0 + 1 by omega)]
          have R5 := R4.up (ws' := ws2.set r (.num (a2.fmod b))) List.length_set
          generalize (List.set (List.set _ (n0 + 1) _) (n0 + 2) _) = M9 at R5 ⊢
          walk_at "v"
          refine ⟨_, rfl, dep_pair trivial trivial, ?_⟩
          walk_at "v"
          refine R5.sameS ?_
          walk_at "v"
          exact ⟨_, _, _, _, _, _, _, _, _, _, _, _, rfl, R5.b, R5.B⟩
        · have hb0 : b = 0 := by simpa using hz
          subst hb0
          walk_at "pk"
          refine ⟨n0, n0 + 1, ws2, _, rfl, R4.W.S, .inr (.inr ⟨.rest r q p a2 hq2 hp2, ?_⟩)⟩
          walk_at "v"
          refine ⟨_, rfl, dep_pair trivial trivial, ?_⟩
          walk_at "v"
          refine R4.sameS ?_
          walk_at "v"
          exact ⟨_, _, _, _, _, _, _, _, _, _, _, _, rfl, R4.b, R4.B⟩
    · obtain ⟨ns, bi, ba, st, bn, eo, _⟩ := B1.ex
      have e0 : itemsL M' (.m 0) = some [.p (intsT ns), .p (.int bi), .p (.int ba), .p (.int st), .p (.int bn)] := by simp [itemsL, hb, eo]
      refine ix_at e0 rfl ?_
      walk_at "v"
      refine ix_at e0 rfl ?_
      walk_at "v"
      refine ite2 (fun hlt => ?_) (fun hlt => ?_)
      · skip
        walk_at "v"
        refine ⟨0, o1, rfl, hb, B1, fun a b o2 B2 ha hbb => ?_⟩
        have hb2 : (M'.set 0 o2)[0]? = some o2 := List.getElem?_set_self (List.getElem?_eq_some_iff.mp hb).1
        generalize M'.set 0 o2 = M1 at hb2 ⊢
        walk_at "v"
        refine ⟨0, o2, 8, rfl, hb2, B2, by decide, by decide, fun r o3 r0 r1 B3 => ?_⟩
        have hb3 : (M1.set 0 o3)[0]? = some o3 := List.getElem?_set_self (List.getElem?_eq_some_iff.mp hb2).1
        generalize M1.set 0 o3 = M2 at hb3 ⊢
        obtain ⟨r, rfl⟩ : ∃ j : Nat, r = (j : Int) := ⟨r.toNat, by omega⟩
        have hr8 : r < 8 := by omega
        walk_at "v"
        refine ⟨0, o3, 8, rfl, hb3, B3, by decide, by decide, fun q o4 q0 q1 B4 => ?_⟩
        have hb4 : (M2.set 0 o4)[0]? = some o4 := List.getElem?_set_self (List.getElem?_eq_some_iff.mp hb3).1
        generalize M2.set 0 o4 = M3 at hb4 ⊢
        obtain ⟨q, rfl⟩ : ∃ j : Nat, q = (j : Int) := ⟨q.toNat, by omega⟩
        have hq8 : q < 8 := by omega
        walk_at "v"
        refine ⟨0, o4, 8, rfl, hb4, B4, by decide, by decide, fun d o5 d0 d1 B5 => ?_⟩
        have hb5 : (M3.set 0 o5)[0]? = some o5 := List.getElem?_set_self (List.getElem?_eq_some_iff.mp hb4).1
        generalize M3.set 0 o5 = M4 at hb5 ⊢
        walk_at "v"
        refine ⟨by decide, ?_⟩
        obtain ⟨p, hp⟩ : ∃ j : Nat, ((q : Int) + d) % 8 = (j : Int) := ⟨(((q : Int) + d) % 8).toNat, by omega⟩
        have hp8 : p < 8 := by omega
        rw [hp]
        walk_at "v"
        refine ⟨M4.length, rfl, get_last, ?_⟩
        refine ⟨rfl, ?_⟩
        walk_at "v"
        refine repN_at (by decide) (by decide) (by decide) ?_
        simp only [set_mid, List.length_append, List.length_cons, List.length_nil, List.append_assoc, List.cons_append, List.nil_append, Nat.reduceAdd]
        show uSeq _ _ _ [none, some (.m 0), some (.p (.int (i : Int))), some (.p (.int a)), some (.p (.int b)), some (.p (.int (r : Int))), some (.p (.int (q : Int))), some (.p (.int (p : Int))), some (.m M4.length), some (.m (M4.length + 4)), x10, x11, x12] (NewM CP M4)
        have R0 := run_new (CP := CP) hb5 B5
        generalize NewM CP M4 = M5 at R0 ⊢
        generalize M4.length = n0 at R0 ⊢
        walk_at "v"
        refine ufor_list (fun j ρ M => ∃ x10, ρ = [none, some (.m 0), some (.p (.int (i : Int))), some (.p (.int a)), some (.p (.int b)), some (.p (.int (r : Int))), some (.p (.int (q : Int))), some (.p (.int (p : Int))), some (.m n0), some (.m (n0 + 4)), x10, x11, x12] ∧ Run CP M n0 (n0 + 1) (n0 + 4) (n0 + 2) (n0 + 3) o5 (wsj q p a b j)) ⟨_, rfl, R0⟩ ?_ ?_
        · rintro j t ρ M ht ⟨y10, rfl, R⟩
          match j, ht, R with
          | 0, ht, R =>
            cases ht
            walk_at "v"
            refine R.numS hq8 fun M6 R6 => ?_
            walk_at "v"
            exact ⟨_, rfl, R6⟩
          | 1, ht, R =>
            cases ht
            walk_at "v"
            refine R.numS hp8 fun M6 R6 => ?_
            walk_at "v"
            exact ⟨_, rfl, R6⟩
          | j + 2, ht, R => simp at ht
        rintro ρ M ⟨y10, rfl, R3⟩
        obtain ⟨a2, hq2, ha2⟩ := wsj_q (q := q) (p := p) (a := a) (b := b) hq8 ha hbb
        have hp2 := wsj_p (q := q) (p := p) (a := a) (b := b) hp8
        have R3 : Run CP M n0 (n0 + 1) (n0 + 4) (n0 + 2) (n0 + 3) o5 (wsj q p a b 2) := R3
        generalize wsj q p a b 2 = ws2 at R3 hq2 hp2
        have hlog : b.natAbs.log2 < 9000 := bt_log hbb
        walk_at "v"
        refine own0_at R3.W.O ?_
        walk_at "v"
        refine wix_at R3.W.O.b hq2 ?_
        refine own0_at R3.W.O ?_
        walk_at "v"
        refine wix_at R3.W.O.b hp2 ?_
        simp only [tW]
        walk_at "v"
        refine R3.drawS (by decide) (by decide) fun M8 wd o6 w0 w1 R4 => ?_
        rcases (show wd = 0 ∨ wd = 1 by omega) with rfl | rfl
        · refine ixl_at rfl ?_
          walk_at "v"
          refine ite2 (fun hz => ?_) (fun hz => ?_)
          · have hb0 : b ≠ 0 := by simpa using hz
            walk_at "pk"
            refine ⟨a2, b, rfl, hb0, ha2.mono (by decide), hbb.mono (by decide), ?_⟩
            walk_at "pk"
            refine own0_at R4.W.O ?_
            walk_at "pk"
            refine wput_at (x := .num (a2.fdiv b)) R4.W.O.b (by rw [R4.W.O.n]; exact hr8) ?_
            walk_at "pk"
            refine ⟨n0, n0 + 1, ws2, _, rfl, R4.W.S.set (by omega) (by omega), .inl ⟨_, .over r q p a2 b hr8 hq2 hp2 hb0 (PyProof.noPylong_of_log2 hlog), ?_⟩⟩
            rw [List.set_comm _ _ (show n0 + 2 ≠ n0 + 1 by omega)]
            have R5 := R4.up (ws' := ws2.set r (.num (a2.fdiv b))) List.length_set
            generalize (List.set (List.set _ (n0 + 1) _) (n0 + 2) _) = M9 at R5 ⊢
            walk_at "v"
            refine ⟨_, rfl, dep_pair trivial trivial, ?_⟩
            walk_at "v"
            refine R5.sameS ?_
            walk_at "v"
            exact ⟨_, _, _, _, _, _, _, _, _, _, _, _, rfl, R5.b, R5.B⟩
          · have hb0 : b = 0 := by simpa using hz
            subst hb0
            walk_at "pk"
            refine ⟨n0, n0 + 1, ws2, _, rfl, R4.W.S, .inr (.inr ⟨.over r q p a2 hq2 hp2, ?_⟩)⟩
            walk_at "v"
            refine ⟨_, rfl, dep_pair trivial trivial, ?_⟩
            walk_at "v"
            refine R4.sameS ?_
            walk_at "v"
            exact ⟨_, _, _, _, _, _, _, _, _, _, _, _, rfl, R4.b, R4.B⟩
        · refine ixl_at rfl ?_
          walk_at "v"
          refine ite2 (fun hz => ?_) (fun hz => ?_)
          · have hb0 : b ≠ 0 := by simpa using hz
            walk_at "pk"
            refine ⟨a2, b, rfl, hb0, ha2.mono (by decide), hbb.mono (by decide), ?_⟩
            walk_at "pk"
            refine ⟨.of_bits (Nat.le_trans hbb.bits (by decide)) (Nat.le_trans (bt_fdiv ha2 hb0).bits (by decide)), ?_⟩
            rw [← Int.fmod_def]
            walk_at "pk"
            refine own0_at R4.W.O ?_
            walk_at "pk"
            refine wput_at (x := .num (a2.fmod b)) R4.W.O.b (by rw [R4.W.O.n]; exact hr8) ?_
            walk_at "pk"
            refine ⟨n0, n0 + 1, ws2, _, rfl, R4.W.S.set (by omega) (by omega), .inl ⟨_, .rest r q p a2 b hr8 hq2 hp2 hb0, ?_⟩⟩
            rw [List.set_comm _ _ (show n0 + 2 ≠ n0 + 1 by omega)]
            have R5 := R4.up (ws' := ws2.set r (.num (a2.fmod b))) List.length_set
            generalize (List.set (List.set _ (n0 + 1) _) (n0 + 2) _) = M9 at R5 ⊢
            walk_at "v"
            refine ⟨_, rfl, dep_pair trivial trivial, ?_⟩
            walk_at "v"
            refine R5.sameS ?_
            walk_at "v"
            exact ⟨_, _, _, _, _, _, _, _, _, _, _, _, rfl, R5.b, R5.B⟩
          · have hb0 : b = 0 := by simpa using hz
            subst hb0
            walk_at "pk"
            refine ⟨n0, n0 + 1, ws2, _, rfl, R4.W.S, .inr (.inr ⟨.rest r q p a2 hq2 hp2, ?_⟩)⟩
            walk_at "v"
            refine ⟨_, rfl, dep_pair trivial trivial, ?_⟩
            walk_at "v"
            refine R4.sameS ?_
            walk_at "v"
            exact ⟨_, _, _, _, _, _, _, _, _, _, _, _, rfl, R4.b, R4.B⟩
      · exact ⟨_, _, _, _, _, _, _, _, _, _, _, o1, rfl, hb, B1⟩
  · rintro ρ M' ⟨x2, x3, x4, x5, x6, x7, x8, x9, x10, x11, x12, o1, rfl, hb, B1⟩
    walk_at "v"

abbrev TxPlainStore := TxP

end
end Mw
namespace Mw
open PySem L2
theorem all_mk {l : PySem.W.OpenLaw} {w : World} {K : PySem.W.Frag} {h : Heap} {mg : Str → Option Value} {fa f1 f2 f3 f4 f5 f6 f7 f8 f9 f10 f11 f12 f13 f14 f15 f16 f17 f18 f19 f20 f21 f22 f23 f24 f25 f26 f27 f28 f29 f30 f31 f32 f33 f34 f35 f36 f37 C1 CENought CEWrongKind : Addr} (X : K.In h) (G : h.Ns mainGlobals mg) (hfa : mg "law" = some (.ref fa))
    {od1 an1 od2 an2 od3 an3 od4 an4 od5 an5 od6 an6 od7 an7 od8 an8 od9 an9 od10 an10 od11 an11 od12 an12 od13 an13 od26 an26 od27 an27 od28 an28 od30 an30 od31 an31 od32 an32 od33 an33 od34 an34 od35 an35 od36 an36 od37 an37 : Option Addr} {sl1 sl2 sl3 sl4 sl5 sl6 sl7 sl8 sl9 sl10 sl11 sl12 sl13 sl26 sl27 sl28 sl30 sl31 sl32 sl33 sl34 sl35 sl36 sl37 : Array (Option Value)} {oc1 kV1 dc1 pm1 cdd1 ct1 oc2 kV2 dc2 pm2 cdd2 ct2 oc3 kV3 dc3 pm3 cdd3 ct3 oc4 kV4 dc4 pm4 cdd4 ct4 oc5 kV5 dc5 pm5 cdd5 ct5 oc6 kV6 dc6 pm6 cdd6 ct6 oc7 kV7 dc7 pm7 cdd7 ct7 oc8 kV8 dc8 pm8 cdd8 ct8 oc9 kV9 dc9 pm9 cdd9 ct9 oc10 kV10 dc10 pm10 cdd10 ct10 oc11 kV11 dc11 pm11 cdd11 ct11 oc12 kV12 dc12 pm12 cdd12 ct12 oc13 kV13 dc13 pm13 cdd13 ct13 oc26 kV26 dc26 pm26 cdd26 ct26 oc27 kV27 dc27 pm27 cdd27 ct27 oc28 kV28 dc28 pm28 cdd28 ct28 oc30 kV30 dc30 pm30 cdd30 ct30 oc31 kV31 dc31 pm31 cdd31 ct31 oc32 kV32 dc32 pm32 cdd32 ct32 oc33 kV33 dc33 pm33 cdd33 ct33 oc34 kV34 dc34 pm34 cdd34 ct34 oc35 kV35 dc35 pm35 cdd35 ct35 oc36 kV36 dc36 pm36 cdd36 ct36 oc37 kV37 dc37 pm37 cdd37 ct37 : Value} {gk1 : Tok}
    (ca1 : PySem.W.nsIn K mainGlobals "PlainStore" = some (some (.ref C1)))
    (cb1 : PySem.W.plainGet K C1 Str.empty = true)
    (cc1 : PySem.W.hasDictIn K C1 = true)
    (cd1 : PySem.W.plainOver K C1 = true)
    (ce1 : PySem.W.findIn K (.ref C1) "__setattr__" = some (some (.builtin "object.__setattr__")))
    (cf1 : PySem.W.makesIn K C1 = true)
    (cg1 : PySem.W.keepIn K (.ref C1) = true)
    (ch1_1 : PySem.W.findIn K (.ref C1) "held" = some none)
    (xaNought : PySem.W.nsIn K mainGlobals "Nought" = some (some (.ref CENought)))
    (xaWrongKind : PySem.W.nsIn K mainGlobals "WrongKind" = some (some (.ref CEWrongKind)))
    (xoNought : PySem.W.excIn K CENought [.type "ValueError", .type "Exception", .type "BaseException", .type "object"] "ValueError.__new__" = true)
    (ENought_WrongKind : PySem.W.exmOne K (.ref CENought) (.ref CEWrongKind) = some false)
    (ENought_Nought : PySem.W.exmOne K (.ref CENought) (.ref CENought) = some true)
    (a1 : PySem.W.nsIn K mainGlobals "_law_bag" = some (some (.ref f1)))
    (l1 : K.lookup f1 = some ⟨oc1, od1, .func (PySem.W.fnOf "_law_bag" "_law_bag" (defArgs sBag) (defBody sBag) (defScope sBag) .none kV1 dc1 pm1 an1 cdd1 ct1), sl1⟩)
    (c1 : PySem.W.codeIn K cdd1 "_law_bag" = true)
    (k1 : PySem.W.keepIn K (.ref f1) = true)
    (a2 : PySem.W.nsIn K mainGlobals "_law_draw" = some (some (.ref f2)))
    (l2 : K.lookup f2 = some ⟨oc2, od2, .func (PySem.W.fnOf "_law_draw" "_law_draw" (defArgs sDraw) (defBody sDraw) (defScope sDraw) .none kV2 dc2 pm2 an2 cdd2 ct2), sl2⟩)
    (c2 : PySem.W.codeIn K cdd2 "_law_draw" = true)
    (k2 : PySem.W.keepIn K (.ref f2) = true)
    (a3 : PySem.W.nsIn K mainGlobals "_law_alike" = some (some (.ref f3)))
    (l3 : K.lookup f3 = some ⟨oc3, od3, .func (PySem.W.fnOf "_law_alike" "_law_alike" (defArgs sAlike) (defBody sAlike) (defScope sAlike) .none kV3 dc3 pm3 an3 cdd3 ct3), sl3⟩)
    (c3 : PySem.W.codeIn K cdd3 "_law_alike" = true)
    (k3 : PySem.W.keepIn K (.ref f3) = true)
    (a4 : PySem.W.nsIn K mainGlobals "kind_of" = some (some (.ref f4)))
    (l4 : K.lookup f4 = some ⟨oc4, od4, .func (PySem.W.fnOf "kind_of" "kind_of" (defArgs sKindOf) (defBody sKindOf) (defScope sKindOf) .none kV4 dc4 pm4 an4 cdd4 ct4), sl4⟩)
    (c4 : PySem.W.codeIn K cdd4 "kind_of" = true)
    (k4 : PySem.W.keepIn K (.ref f4) = true)
    (a5 : PySem.W.findIn K (.ref C1) "__init__" = some (some (.ref f5)))
    (n5 : PySem.W.isFn K (.ref f5) = true)
    (l5 : K.lookup f5 = some ⟨oc5, od5, .func (PySem.W.fnOf "__init__" "PlainStore.__init__" (defArgs sPlainStoreInit) (defBody sPlainStoreInit) (defScope sPlainStoreInit) .none kV5 dc5 pm5 an5 cdd5 ct5), sl5⟩)
    (c5 : PySem.W.codeIn K cdd5 "PlainStore.__init__" = true)
    (k5 : PySem.W.keepIn K (.ref f5) = true)
    (a6 : PySem.W.findIn K (.ref C1) "number" = some (some (.ref f6)))
    (n6 : PySem.W.isFn K (.ref f6) = true)
    (l6 : K.lookup f6 = some ⟨oc6, od6, .func (PySem.W.fnOf "number" "PlainStore.number" (defArgs sPlainStoreNumber) (defBody sPlainStoreNumber) (defScope sPlainStoreNumber) .none kV6 dc6 pm6 an6 cdd6 ct6), sl6⟩)
    (c6 : PySem.W.codeIn K cdd6 "PlainStore.number" = true)
    (k6 : PySem.W.keepIn K (.ref f6) = true)
    (a7 : PySem.W.findIn K (.ref C1) "same" = some (some (.ref f7)))
    (n7 : PySem.W.isFn K (.ref f7) = true)
    (l7 : K.lookup f7 = some ⟨oc7, od7, .func (PySem.W.fnOf "same" "PlainStore.same" (defArgs sPlainStoreSame) (defBody sPlainStoreSame) (defScope sPlainStoreSame) .none kV7 dc7 pm7 an7 cdd7 ct7), sl7⟩)
    (c7 : PySem.W.codeIn K cdd7 "PlainStore.same" = true)
    (k7 : PySem.W.keepIn K (.ref f7) = true)
    (a8 : PySem.W.findIn K (.ref C1) "kind" = some (some (.ref f8)))
    (n8 : PySem.W.isFn K (.ref f8) = true)
    (l8 : K.lookup f8 = some ⟨oc8, od8, .func (PySem.W.fnOf "kind" "PlainStore.kind" (defArgs sPlainStoreKind) (defBody sPlainStoreKind) (defScope sPlainStoreKind) .none kV8 dc8 pm8 an8 cdd8 ct8), sl8⟩)
    (c8 : PySem.W.codeIn K cdd8 "PlainStore.kind" = true)
    (k8 : PySem.W.keepIn K (.ref f8) = true)
    (a9 : PySem.W.findIn K (.ref C1) "told" = some (some (.ref f9)))
    (n9 : PySem.W.isFn K (.ref f9) = true)
    (l9 : K.lookup f9 = some ⟨oc9, od9, .func (PySem.W.fnOf "told" "PlainStore.told" (defArgs sPlainStoreTold) (defBody sPlainStoreTold) (defScope sPlainStoreTold) .none kV9 dc9 pm9 an9 cdd9 ct9), sl9⟩)
    (c9 : PySem.W.codeIn K cdd9 "PlainStore.told" = true)
    (k9 : PySem.W.keepIn K (.ref f9) = true)
    (a10 : PySem.W.nsIn K mainGlobals "need_numbers" = some (some (.ref f10)))
    (l10 : K.lookup f10 = some ⟨oc10, od10, .func (PySem.W.fnOf "need_numbers" "need_numbers" (defArgs sNeedNumbers) (defBody sNeedNumbers) (defScope sNeedNumbers) .none kV10 dc10 pm10 an10 cdd10 ct10), sl10⟩)
    (c10 : PySem.W.codeIn K cdd10 "need_numbers" = true)
    (k10 : PySem.W.keepIn K (.ref f10) = true)
    (a11 : PySem.W.nsIn K mainGlobals "need_divisor" = some (some (.ref f11)))
    (l11 : K.lookup f11 = some ⟨oc11, od11, .func (PySem.W.fnOf "need_divisor" "need_divisor" (defArgs sNeedDivisor) (defBody sNeedDivisor) (defScope sNeedDivisor) .none kV11 dc11 pm11 an11 cdd11 ct11), sl11⟩)
    (c11 : PySem.W.codeIn K cdd11 "need_divisor" = true)
    (k11 : PySem.W.keepIn K (.ref f11) = true)
    (a12 : PySem.W.findIn K (.ref C1) "over" = some (some (.ref f12)))
    (n12 : PySem.W.isFn K (.ref f12) = true)
    (l12 : K.lookup f12 = some ⟨oc12, od12, .func (PySem.W.fnOf "over" "PlainStore.over" (defArgs sPlainStoreOver) (defBody sPlainStoreOver) (defScope sPlainStoreOver) .none kV12 dc12 pm12 an12 cdd12 ct12), sl12⟩)
    (c12 : PySem.W.codeIn K cdd12 "PlainStore.over" = true)
    (k12 : PySem.W.keepIn K (.ref f12) = true)
    (a13 : PySem.W.findIn K (.ref C1) "rest" = some (some (.ref f13)))
    (n13 : PySem.W.isFn K (.ref f13) = true)
    (l13 : K.lookup f13 = some ⟨oc13, od13, .func (PySem.W.fnOf "rest" "PlainStore.rest" (defArgs sPlainStoreRest) (defBody sPlainStoreRest) (defScope sPlainStoreRest) .none kV13 dc13 pm13 an13 cdd13 ct13), sl13⟩)
    (c13 : PySem.W.codeIn K cdd13 "PlainStore.rest" = true)
    (k13 : PySem.W.keepIn K (.ref f13) = true)
    (a14 : PySem.W.findIn K (.ref C1) "plus" = some (some (.ref f14)))
    (n14 : PySem.W.isFn K (.ref f14) = true)
    (k14 : PySem.W.keepIn K (.ref f14) = true)
    (a15 : PySem.W.findIn K (.ref C1) "less" = some (some (.ref f15)))
    (n15 : PySem.W.isFn K (.ref f15) = true)
    (k15 : PySem.W.keepIn K (.ref f15) = true)
    (a16 : PySem.W.findIn K (.ref C1) "times" = some (some (.ref f16)))
    (n16 : PySem.W.isFn K (.ref f16) = true)
    (k16 : PySem.W.keepIn K (.ref f16) = true)
    (a17 : PySem.W.findIn K (.ref C1) "pair" = some (some (.ref f17)))
    (n17 : PySem.W.isFn K (.ref f17) = true)
    (k17 : PySem.W.keepIn K (.ref f17) = true)
    (a18 : PySem.W.findIn K (.ref C1) "sign" = some (some (.ref f18)))
    (n18 : PySem.W.isFn K (.ref f18) = true)
    (k18 : PySem.W.keepIn K (.ref f18) = true)
    (a19 : PySem.W.findIn K (.ref C1) "one" = some (some (.ref f19)))
    (n19 : PySem.W.isFn K (.ref f19) = true)
    (k19 : PySem.W.keepIn K (.ref f19) = true)
    (a20 : PySem.W.findIn K (.ref C1) "copy" = some (some (.ref f20)))
    (n20 : PySem.W.isFn K (.ref f20) = true)
    (k20 : PySem.W.keepIn K (.ref f20) = true)
    (a21 : PySem.W.findIn K (.ref C1) "first" = some (some (.ref f21)))
    (n21 : PySem.W.isFn K (.ref f21) = true)
    (k21 : PySem.W.keepIn K (.ref f21) = true)
    (a22 : PySem.W.findIn K (.ref C1) "second" = some (some (.ref f22)))
    (n22 : PySem.W.isFn K (.ref f22) = true)
    (k22 : PySem.W.keepIn K (.ref f22) = true)
    (a23 : PySem.W.findIn K (.ref C1) "set_first" = some (some (.ref f23)))
    (n23 : PySem.W.isFn K (.ref f23) = true)
    (k23 : PySem.W.keepIn K (.ref f23) = true)
    (a24 : PySem.W.findIn K (.ref C1) "set_second" = some (some (.ref f24)))
    (n24 : PySem.W.isFn K (.ref f24) = true)
    (k24 : PySem.W.keepIn K (.ref f24) = true)
    (a25 : PySem.W.findIn K (.ref C1) "below" = some (some (.ref f25)))
    (n25 : PySem.W.isFn K (.ref f25) = true)
    (k25 : PySem.W.keepIn K (.ref f25) = true)
    (a26 : PySem.W.nsIn K mainGlobals "_law_deed_done" = some (some (.ref f26)))
    (l26 : K.lookup f26 = some ⟨oc26, od26, .func (PySem.W.fnOf "_law_deed_done" "_law_deed_done" (defArgs sDeedDone) (defBody sDeedDone) (defScope sDeedDone) .none kV26 dc26 pm26 an26 cdd26 ct26), sl26⟩)
    (c26 : PySem.W.codeIn K cdd26 "_law_deed_done" = true)
    (k26 : PySem.W.keepIn K (.ref f26) = true)
    (a27 : PySem.W.nsIn K mainGlobals "_law_done" = some (some (.ref f27)))
    (l27 : K.lookup f27 = some ⟨oc27, od27, .func (PySem.W.fnOf "_law_done" "_law_done" (defArgs sDone) (defBody sDone) (defScope sDone) .none kV27 dc27 pm27 an27 cdd27 ct27), sl27⟩)
    (c27 : PySem.W.codeIn K cdd27 "_law_done" = true)
    (k27 : PySem.W.keepIn K (.ref f27) = true)
    (a28 : PySem.W.nsIn K mainGlobals "_law_own_kind" = some (some (.ref f28)))
    (l28 : K.lookup f28 = some ⟨oc28, od28, .func (PySem.W.fnOf "_law_own_kind" "_law_own_kind" (defArgs sOwnKind) (defBody sOwnKind) (defScope sOwnKind) .none kV28 dc28 pm28 an28 cdd28 ct28), sl28⟩)
    (c28 : PySem.W.codeIn K cdd28 "_law_own_kind" = true)
    (k28 : PySem.W.keepIn K (.ref f28) = true)
    (a29 : PySem.W.nsIn K mainGlobals "_law_own_numbers" = some (some (.ref f29)))
    (k29 : PySem.W.keepIn K (.ref f29) = true)
    (a30 : PySem.W.nsIn K mainGlobals "_law_own_do" = some (some (.ref f30)))
    (l30 : K.lookup f30 = some ⟨oc30, od30, .func (PySem.W.fnOf "_law_own_do" "_law_own_do" (defArgs sOwnDo) (defBody sOwnDo) (defScope sOwnDo) .none kV30 dc30 pm30 an30 cdd30 ct30), sl30⟩)
    (c30 : PySem.W.codeIn K cdd30 "_law_own_do" = true)
    (k30 : PySem.W.keepIn K (.ref f30) = true)
    (a31 : PySem.W.nsIn K mainGlobals "_law_own_ask" = some (some (.ref f31)))
    (l31 : K.lookup f31 = some ⟨oc31, od31, .func (PySem.W.fnOf "_law_own_ask" "_law_own_ask" (defArgs sOwnAsk) (defBody sOwnAsk) (defScope sOwnAsk) .none kV31 dc31 pm31 an31 cdd31 ct31), sl31⟩)
    (c31 : PySem.W.codeIn K cdd31 "_law_own_ask" = true)
    (k31 : PySem.W.keepIn K (.ref f31) = true)
    (a32 : PySem.W.nsIn K mainGlobals "_law_both" = some (some (.ref f32)))
    (l32 : K.lookup f32 = some ⟨oc32, od32, .func (PySem.W.fnOf "_law_both" "_law_both" (defArgs sBoth) (defBody sBoth) (defScope sBoth) .none kV32 dc32 pm32 an32 cdd32 ct32), sl32⟩)
    (c32 : PySem.W.codeIn K cdd32 "_law_both" = true)
    (k32 : PySem.W.keepIn K (.ref f32) = true)
    (a33 : PySem.W.nsIn K mainGlobals "_law_all_same" = some (some (.ref f33)))
    (l33 : K.lookup f33 = some ⟨oc33, od33, .func (PySem.W.fnOf "_law_all_same" "_law_all_same" (defArgs sAllSame) (defBody sAllSame) (defScope sAllSame) .none kV33 dc33 pm33 an33 cdd33 ct33), sl33⟩)
    (c33 : PySem.W.codeIn K cdd33 "_law_all_same" = true)
    (k33 : PySem.W.keepIn K (.ref f33) = true)
    (a34 : PySem.W.nsIn K mainGlobals "_law_any_number" = some (some (.ref f34)))
    (l34 : K.lookup f34 = some ⟨oc34, od34, .func (PySem.W.fnOf "_law_any_number" "_law_any_number" (defArgs sAnyNumber) (defBody sAnyNumber) (defScope sAnyNumber) .none kV34 dc34 pm34 an34 cdd34 ct34), sl34⟩)
    (c34 : PySem.W.codeIn K cdd34 "_law_any_number" = true)
    (k34 : PySem.W.keepIn K (.ref f34) = true)
    (a35 : PySem.W.nsIn K mainGlobals "_law_two" = some (some (.ref f35)))
    (l35 : K.lookup f35 = some ⟨oc35, od35, .func (PySem.W.fnOf "_law_two" "_law_two" (defArgs sTwo) (defBody sTwo) (defScope sTwo) .none kV35 dc35 pm35 an35 cdd35 ct35), sl35⟩)
    (c35 : PySem.W.codeIn K cdd35 "_law_two" = true)
    (k35 : PySem.W.keepIn K (.ref f35) = true)
    (a36 : PySem.W.nsIn K mainGlobals "_law_floor" = some (some (.ref f36)))
    (l36 : K.lookup f36 = some ⟨oc36, od36, .func (PySem.W.fnOf "_law_floor" "_law_floor" (defArgs sFloor) (defBody sFloor) (defScope sFloor) .none kV36 dc36 pm36 an36 cdd36 ct36), sl36⟩)
    (c36 : PySem.W.codeIn K cdd36 "_law_floor" = true)
    (k36 : PySem.W.keepIn K (.ref f36) = true)
    (a37 : PySem.W.nsIn K mainGlobals "law" = some (some (.ref f37)))
    (l37 : K.lookup f37 = some ⟨oc37, od37, .func (PySem.W.fnOf "law" "law" (defArgs sLaw) (defBody sLaw) (defScope sLaw) .none kV37 dc37 pm37 an37 cdd37 ct37), sl37⟩)
    (c37 : PySem.W.codeIn K cdd37 "law" = true)
    (k37 : PySem.W.keepIn K (.ref f37) = true)
    (z1 : PySem.W.nsIn K mainGlobals "abs" = some none)
    (z2 : PySem.W.nsIn K mainGlobals "len" = some none)
    (z3 : PySem.W.nsIn K mainGlobals "min" = some none)
    (z4 : PySem.W.nsIn K mainGlobals "max" = some none)
    (z5 : PySem.W.nsIn K mainGlobals "sum" = some none)
    (z6 : PySem.W.nsIn K mainGlobals "sorted" = some none)
    (z7 : PySem.W.nsIn K mainGlobals "all" = some none)
    (z8 : PySem.W.nsIn K mainGlobals "any" = some none)
    (z9 : PySem.W.nsIn K mainGlobals "isinstance" = some none)
    (z10 : PySem.W.nsIn K mainGlobals "range" = some none)
    (z11 : PySem.W.nsIn K mainGlobals "int" = some none)
    (z12 : PySem.W.nsIn K mainGlobals "list" = some none)
    (z13 : PySem.W.nsIn K mainGlobals "str" = some none)
    (z14 : PySem.W.nsIn K mainGlobals "bool" = some none)
    (z15 : PySem.W.nsIn K mainGlobals "tuple" = some none)
    (z16 : PySem.W.nsIn K mainGlobals "zip" = some none)
    (z17 : PySem.W.nsIn K mainGlobals "enumerate" = some none)
    (z18 : PySem.W.nsIn K mainGlobals "dict" = some none)
    (g1 : PySem.W.nsIn K mainGlobals "REGISTERS" = some (some (.int 8 gk1))) :
    ∃ fd : FuncData, (∀ (s : Shared) (v : Value), BindsTo s fd ⟨[v], []⟩ [("script", v)]) ∧ ∀ base : Heap, K.In base → base.Ns mainGlobals mg → FnOk l.prog w K mg base CX0 10 fa fd ["script"] (spLaw K) := by
  have e := hfa.symm.trans (PySem.W.mg_of X G a37)
  cases e
  have N : Nms mg := ⟨PySem.W.mg_none_of X G z1, PySem.W.mg_none_of X G z2, PySem.W.mg_none_of X G z3, PySem.W.mg_none_of X G z4, PySem.W.mg_none_of X G z5, PySem.W.mg_none_of X G z6, PySem.W.mg_none_of X G z7, PySem.W.mg_none_of X G z8, PySem.W.mg_none_of X G z9, PySem.W.mg_none_of X G z10, PySem.W.mg_none_of X G z11, PySem.W.mg_none_of X G z12, PySem.W.mg_none_of X G z13, PySem.W.mg_none_of X G z14, PySem.W.mg_none_of X G z15, PySem.W.mg_none_of X G z16, PySem.W.mg_none_of X G z17, PySem.W.mg_none_of X G z18⟩
  have GReg : GInt mg "REGISTERS" 8 := ⟨_, PySem.W.mg_of X G g1⟩
  have TPlainStore : Cls K C1 := ⟨cb1, cc1, cd1, ce1⟩
  have XPlainStore : TxPlainStore K C1 := ⟨TPlainStore, ch1_1⟩
  have ONought : ExcC K mg "Nought" CENought := ⟨PySem.W.mg_of X G xaNought, xoNought⟩
  have BWrongKind := PySem.W.mg_of X G xaWrongKind
  have F1 := fun_mk (st := sBag) l1 c1 k1
  have b1 := F1.binds (ps := ["script"]) fun _ _ _ _ _ _ us hl => match us, hl with | [_], _ => rfl
  have F2 := fun_mk (st := sDraw) l2 c2 k2
  have b2 := F2.binds (ps := ["bag", "many"]) fun _ _ _ _ _ _ us hl => match us, hl with | [_, _], _ => rfl
  have F3 := fun_mk (st := sAlike) l3 c3 k3
  have b3 := F3.binds (ps := ["found", "due"]) fun _ _ _ _ _ _ us hl => match us, hl with | [_, _], _ => rfl
  have F4 := fun_mk (st := sKindOf) l4 c4 k4
  have b4 := F4.binds (ps := ["worth"]) fun _ _ _ _ _ _ us hl => match us, hl with | [_], _ => rfl
  have F5 := fun_mk (st := sPlainStoreInit) l5 c5 k5
  have b5 := F5.binds (ps := ["self"]) fun _ _ _ _ _ _ us hl => match us, hl with | [_], _ => rfl
  have F6 := fun_mk (st := sPlainStoreNumber) l6 c6 k6
  have b6 := F6.binds (ps := ["self", "r", "n"]) fun _ _ _ _ _ _ us hl => match us, hl with | [_, _, _], _ => rfl
  have F7 := fun_mk (st := sPlainStoreSame) l7 c7 k7
  have b7 := F7.binds (ps := ["self", "q", "p"]) fun _ _ _ _ _ _ us hl => match us, hl with | [_, _, _], _ => rfl
  have F8 := fun_mk (st := sPlainStoreKind) l8 c8 k8
  have b8 := F8.binds (ps := ["self", "q"]) fun _ _ _ _ _ _ us hl => match us, hl with | [_, _], _ => rfl
  have F9 := fun_mk (st := sPlainStoreTold) l9 c9 k9
  have b9 := F9.binds (ps := ["self", "q"]) fun _ _ _ _ _ _ us hl => match us, hl with | [_, _], _ => rfl
  have F10 := fun_mk (st := sNeedNumbers) l10 c10 k10
  have b10 := F10.binds (ps := ["store", "q", "p"]) fun _ _ _ _ _ _ us hl => match us, hl with | [_, _, _], _ => rfl
  have F11 := fun_mk (st := sNeedDivisor) l11 c11 k11
  have b11 := F11.binds (ps := ["store", "q", "p"]) fun _ _ _ _ _ _ us hl => match us, hl with | [_, _, _], _ => rfl
  have F12 := fun_mk (st := sPlainStoreOver) l12 c12 k12
  have b12 := F12.binds (ps := ["self", "r", "q", "p"]) fun _ _ _ _ _ _ us hl => match us, hl with | [_, _, _, _], _ => rfl
  have F13 := fun_mk (st := sPlainStoreRest) l13 c13 k13
  have b13 := F13.binds (ps := ["self", "r", "q", "p"]) fun _ _ _ _ _ _ us hl => match us, hl with | [_, _, _, _], _ => rfl
  have F26 := fun_mk (st := sDeedDone) l26 c26 k26
  have b26 := F26.binds (ps := ["store", "deed"]) fun _ _ _ _ _ _ us hl => match us, hl with | [_, _], _ => rfl
  have F27 := fun_mk (st := sDone) l27 c27 k27
  have b27 := F27.binds (ps := ["store", "deed"]) fun _ _ _ _ _ _ us hl => match us, hl with | [_, _], _ => rfl
  have F28 := fun_mk (st := sOwnKind) l28 c28 k28
  have b28 := F28.binds (ps := ["worth"]) fun _ _ _ _ _ _ us hl => match us, hl with | [_], _ => rfl
  have F30 := fun_mk (st := sOwnDo) l30 c30 k30
  have b30 := F30.binds (ps := ["own", "deed"]) fun _ _ _ _ _ _ us hl => match us, hl with | [_, _], _ => rfl
  have F31 := fun_mk (st := sOwnAsk) l31 c31 k31
  have b31 := F31.binds (ps := ["own", "deed"]) fun _ _ _ _ _ _ us hl => match us, hl with | [_, _], _ => rfl
  have F32 := fun_mk (st := sBoth) l32 c32 k32
  have b32 := F32.binds (ps := ["store", "own", "deed"]) fun _ _ _ _ _ _ us hl => match us, hl with | [_, _, _], _ => rfl
  have F33 := fun_mk (st := sAllSame) l33 c33 k33
  have b33 := F33.binds (ps := ["store", "own", "turn"]) fun _ _ _ _ _ _ us hl => match us, hl with | [_, _, _], _ => rfl
  have F34 := fun_mk (st := sAnyNumber) l34 c34 k34
  have b34 := F34.binds (ps := ["bag"]) fun _ _ _ _ _ _ us hl => match us, hl with | [_], _ => rfl
  have F35 := fun_mk (st := sTwo) l35 c35 k35
  have b35 := F35.binds (ps := ["bag"]) fun _ _ _ _ _ _ us hl => match us, hl with | [_], _ => rfl
  have F36 := fun_mk (st := sFloor) l36 c36 k36
  have b36 := F36.binds (ps := ["a", "b"]) fun _ _ _ _ _ _ us hl => match us, hl with | [_, _], _ => rfl
  have F37 := fun_mk (st := sLaw) l37 c37 k37
  refine ⟨PySem.W.fnOf "law" "law" (defArgs sLaw) (defBody sLaw) (defScope sLaw) .none kV37 dc37 pm37 an37 cdd37 ct37, fun s v => .of_eq rfl, fun base _ _ => ?_⟩
  have DBag : Def l.prog w K mg base "_law_bag" 1 ["script"] (spBag K) := ⟨f1, _, PySem.W.mg_of X G a1, k1, b1, ok_bag F1 N⟩
  have DDraw : Def l.prog w K mg base "_law_draw" 1 ["bag", "many"] (spU gDraw) := ⟨f2, _, PySem.W.mg_of X G a2, k2, b2, ok_drawU F2 N⟩
  have DAlike : Def l.prog w K mg base "_law_alike" 4 ["found", "due"] (spP (gAlike 3)) := ⟨f3, _, PySem.W.mg_of X G a3, k3, b3, ok_alike3U F3 N (PySem.W.mg_of X G a3) k3 b3⟩
  have DKindOf : Def l.prog w K mg base "kind_of" 1 ["worth"] (spP gKindOf) := ⟨f4, _, PySem.W.mg_of X G a4, k4, b4, ok_kind_ofU F4 N⟩
  have KPlainStore : MkDef l.prog w K mg base C1 "PlainStore" 1 ["self"] (spU (gPInit C1)) := ⟨f5, _, ⟨cf1, a5, n5, cg1⟩, PySem.W.mg_of X G ca1, b5, ok_pinitU F5 XPlainStore GReg⟩
  have MPlainStoreNumber : MDef l.prog w K mg base C1 "number" 1 ["self", "r", "n"] (spU (gPPut C1)) := ⟨f6, _, ⟨a6, n6, k6⟩, b6, ok_pnumberU F6 N XPlainStore⟩
  have MPlainStoreSame : MDef l.prog w K mg base C1 "same" 1 ["self", "q", "p"] (spU (gPSame C1)) := ⟨f7, _, ⟨a7, n7, k7⟩, b7, ok_psameU F7 N XPlainStore⟩
  have MPlainStoreKind : MDef l.prog w K mg base C1 "kind" 2 ["self", "q"] (spU (gPKind C1)) := ⟨f8, _, ⟨a8, n8, k8⟩, b8, ok_pkindU F8 N XPlainStore DKindOf⟩
  have MPlainStoreTold : MDef l.prog w K mg base C1 "told" 2 ["self", "q"] (spU (gPTold C1)) := ⟨f9, _, ⟨a9, n9, k9⟩, b9, ok_ptoldU F9 N XPlainStore DKindOf⟩
  have DNeedNumbers : Def l.prog w K mg base "need_numbers" 3 ["store", "q", "p"] (spU (gNeed C1)) := ⟨f10, _, PySem.W.mg_of X G a10, k10, b10, ok_needU F10 N TPlainStore MPlainStoreKind⟩
  have DNeedDivisor : DefX l.prog w K mg base "need_divisor" 4 ["store", "q", "p"] (spX mg (gNeedD C1)) := ⟨f11, _, PySem.W.mg_of X G a11, k11, b11, ok_needDX F11 N TPlainStore ONought DNeedNumbers MPlainStoreTold⟩
  have MPlainStoreOver : MDefX l.prog w K mg base C1 "over" 5 ["self", "r", "q", "p"] (spX mg (gPOver C1)) := ⟨f12, _, ⟨a12, n12, k12⟩, b12, ok_poverX F12 N XPlainStore DNeedDivisor⟩
  have MPlainStoreRest : MDefX l.prog w K mg base C1 "rest" 5 ["self", "r", "q", "p"] (spX mg (gPRest C1)) := ⟨f13, _, ⟨a13, n13, k13⟩, b13, ok_prestX F13 N XPlainStore DNeedDivisor⟩
  have MPlainStorePlus : MDef l.prog w K mg base C1 "plus" 1 ["self", "r", "q", "p"] (spU gNo) := ⟨f14, _, ⟨a14, n14, k14⟩, b12, FnOk.no⟩
  have MPlainStoreLess : MDef l.prog w K mg base C1 "less" 1 ["self", "r", "q", "p"] (spU gNo) := ⟨f15, _, ⟨a15, n15, k15⟩, b12, FnOk.no⟩
  have MPlainStoreTimes : MDef l.prog w K mg base C1 "times" 1 ["self", "r", "q", "p"] (spU gNo) := ⟨f16, _, ⟨a16, n16, k16⟩, b12, FnOk.no⟩
  have MPlainStorePair : MDef l.prog w K mg base C1 "pair" 1 ["self", "r", "q", "p"] (spU gNo) := ⟨f17, _, ⟨a17, n17, k17⟩, b12, FnOk.no⟩
  have MPlainStoreSign : MDef l.prog w K mg base C1 "sign" 1 ["self", "r", "n"] (spU gNo) := ⟨f18, _, ⟨a18, n18, k18⟩, b6, FnOk.no⟩
  have MPlainStoreOne : MDef l.prog w K mg base C1 "one" 1 ["self", "r", "n"] (spU gNo) := ⟨f19, _, ⟨a19, n19, k19⟩, b6, FnOk.no⟩
  have MPlainStoreCopy : MDef l.prog w K mg base C1 "copy" 1 ["self", "r", "n"] (spU gNo) := ⟨f20, _, ⟨a20, n20, k20⟩, b6, FnOk.no⟩
  have MPlainStoreFirst : MDef l.prog w K mg base C1 "first" 1 ["self", "r", "n"] (spU gNo) := ⟨f21, _, ⟨a21, n21, k21⟩, b6, FnOk.no⟩
  have MPlainStoreSecond : MDef l.prog w K mg base C1 "second" 1 ["self", "r", "n"] (spU gNo) := ⟨f22, _, ⟨a22, n22, k22⟩, b6, FnOk.no⟩
  have MPlainStoreSetFirst : MDef l.prog w K mg base C1 "set_first" 1 ["self", "q", "p"] (spU gNo) := ⟨f23, _, ⟨a23, n23, k23⟩, b7, FnOk.no⟩
  have MPlainStoreSetSecond : MDef l.prog w K mg base C1 "set_second" 1 ["self", "q", "p"] (spU gNo) := ⟨f24, _, ⟨a24, n24, k24⟩, b7, FnOk.no⟩
  have MPlainStoreBelow : MDef l.prog w K mg base C1 "below" 1 ["self", "q", "p"] (spU gNo) := ⟨f25, _, ⟨a25, n25, k25⟩, b7, FnOk.no⟩
  have DDeedDone : DefX l.prog w K mg base "_law_deed_done" 6 ["store", "deed"] (spX mg (gDeedDone C1)) := ⟨f26, _, PySem.W.mg_of X G a26, k26, b26, ok_deed_doneX F26 N TPlainStore MPlainStoreNumber MPlainStoreSign MPlainStoreOne MPlainStoreCopy MPlainStorePlus MPlainStoreLess MPlainStoreTimes MPlainStoreOver MPlainStoreRest MPlainStorePair MPlainStoreFirst MPlainStoreSecond MPlainStoreSetFirst MPlainStoreSetSecond MPlainStoreBelow MPlainStoreSame MPlainStoreKind MPlainStoreTold⟩
  have DDone : Def l.prog w K mg base "_law_done" 7 ["store", "deed"] (spU (gDone C1)) := ⟨f27, _, PySem.W.mg_of X G a27, k27, b27, ok_doneU F27 N ONought BWrongKind ENought_WrongKind ENought_Nought DDeedDone⟩
  have DOwnKind : Def l.prog w K mg base "_law_own_kind" 1 ["worth"] (spP gKindOf) := ⟨f28, _, PySem.W.mg_of X G a28, k28, b28, ok_own_kindU F28 N⟩
  have DOwnNumbers : Def l.prog w K mg base "_law_own_numbers" 2 ["own", "deed"] (spU gNo) := ⟨f29, _, PySem.W.mg_of X G a29, k29, b30, FnOk.no⟩
  have DOwnDo : Def l.prog w K mg base "_law_own_do" 3 ["own", "deed"] (spU gOwnDo) := ⟨f30, _, PySem.W.mg_of X G a30, k30, b30, ok_own_doU F30 N DOwnKind DOwnNumbers⟩
  have DOwnAsk : Def l.prog w K mg base "_law_own_ask" 2 ["own", "deed"] (spU gOwnAsk) := ⟨f31, _, PySem.W.mg_of X G a31, k31, b31, ok_own_askU F31 N DOwnKind⟩
  have DBoth : Def l.prog w K mg base "_law_both" 8 ["store", "own", "deed"] (spU (gBoth C1)) := ⟨f32, _, PySem.W.mg_of X G a32, k32, b32, ok_bothU F32 N DDone DOwnDo DOwnAsk DAlike⟩
  have DAllSame : Def l.prog w K mg base "_law_all_same" 9 ["store", "own", "turn"] (spU (gAllSame C1)) := ⟨f33, _, PySem.W.mg_of X G a33, k33, b33, ok_all_sameU F33 N DBoth⟩
  have DAnyNumber : Def l.prog w K mg base "_law_any_number" 2 ["bag"] (spU gAnyNumber) := ⟨f34, _, PySem.W.mg_of X G a34, k34, b34, ok_any_numberU F34 N DDraw⟩
  have DTwo : Def l.prog w K mg base "_law_two" 3 ["bag"] (spU gTwo) := ⟨f35, _, PySem.W.mg_of X G a35, k35, b35, ok_twoU F35 N DDraw DAnyNumber⟩
  have DFloor : Def l.prog w K mg base "_law_floor" 1 ["a", "b"] (spP gFloor) := ⟨f36, _, PySem.W.mg_of X G a36, k36, b36, ok_floorU F36 N⟩
  exact ok_lawU F37 N KPlainStore DBag DDraw DTwo DFloor DAlike DDone DAllSame DBoth
theorem walk {l : PySem.W.OpenLaw} {q : Program} {loose : List Str} {XP : (Str → Option Value) → Heap → Prop} {YP : World → Heap → Prop} {d : DefRec} {K : Params → PySem.W.Frag} (hn : l.most = some 63) (hdf : d.params.defaults = [])
    (hY : ∀ (w : World) (h : Heap), YP w h → (K w.params).In h)
    (F : ∀ (w : World) (mg : Str → Option Value) (fa : Addr) (h : Heap), (K w.params).In h → h.Ns mainGlobals mg → mg d.name = some (.ref fa) →
      ∃ fd : FuncData, (∀ (s : Shared) (u : Value), BindsTo s fd ⟨[u], []⟩ [("script", u)]) ∧ ∀ base : Heap, (K w.params).In base → base.Ns mainGlobals mg → FnOk l.prog w (K w.params) mg base CX0 10 fa fd ["script"] (spLaw (K w.params))) :
    PySem.W.WalkO q loose XP YP l.row.toRowW d [] (fun f vs => PySem.call f vs) :=
  L2.walk_of (n := 63) (k := 10) (x := "script") (CX := fun _ => CX0) (sp := fun w => spLaw (K w.params)) hn (by decide) hdf ⟨rfl, by decide, by decide⟩ hY F (fun _ _ a ns hl _ hS => ⟨a, ns, rfl, hS, hl, fun _ => rfl⟩) fun _ _ _ _ _ z => z
end Mw
theorem PySem.W.Fast.te16148747032443467598 : True := True.intro
namespace Mw
open PySem PySem.W PySem.Calls PyProof.Rows L2
abbrev oE (P : Params) (n : Str) (t : Nat) (v : Value) : DictEntry := ⟨PyData.keyHash P n, .str n t, v⟩
noncomputable def K : Params → Frag := fun P =>
(nat_lit 2, ⟨.none, none, (.dict #[] 0), #[]⟩) ::
(nat_lit 3, ⟨.type "dict", none, (.dict [oE P "__name__" 165 (.str "law_markwords_k03_quotients" 539), oE P "__doc__" 166 (.none), oE P "__package__" 167 (.none), oE P "__loader__" 168 (.builtin "__main__.__loader__#opaque"), oE P "__spec__" 169 (.none), oE P "__annotations__" 170 (.ref 6), oE P "__builtins__" 171 (.ref 4), oE P "__file__" 173 (.str "/claim/cut.py" 172), oE P "__cached__" 174 (.none), oE P "WordError" 206 (.ref 24), oE P "WrongKind" 231 (.ref 44), oE P "Nought" 247 (.ref 56), oE P "NoRoom" 263 (.ref 68), oE P "need_numbers" 274 (.ref 77), oE P "need_divisor" 283 (.ref 84), oE P "need_pair" 291 (.ref 91), oE P "REGISTERS" 295 (.int (8) 294), oE P "Pair" 326 (.ref 108), oE P "kind_of" 333 (.ref 119), oE P "PlainStore" 538 (.ref 269), oE P "_law_bag" 546 (.ref 278), oE P "_law_draw" 555 (.ref 285), oE P "_law_reckoned" 564 (.ref 292), oE P "_law_deed_done" 573 (.ref 299), oE P "_law_done" 584 (.ref 306), oE P "_law_alike" 590 (.ref 311), oE P "_law_any_number" 599 (.ref 318), oE P "_law_own_kind" 606 (.ref 325), oE P "_law_own_numbers" 622 (.ref 332), oE P "_law_own_do" 634 (.ref 339), oE P "_law_own_ask" 645 (.ref 346), oE P "_law_both" 654 (.ref 353), oE P "_law_all_same" 665 (.ref 360), oE P "_law_floor" 677 (.ref 367), oE P "_law_two" 687 (.ref 374), oE P "law" 706 (.ref 381)].toArray 36), #[]⟩) ::
(nat_lit 15, ⟨.type "tuple", none, (.seq #[.type "ValueError"] 0), #[]⟩) ::
(nat_lit 22, ⟨.type "tuple", none, (.seq #[] 0), #[]⟩) ::
(nat_lit 23, ⟨.type "dict", none, (.dict [oE P "__module__" 196 (.str "markwords.errors" 187), oE P "__firstlineno__" 200 (.int (2) 199), oE P "__static_attributes__" 201 (.ref 22), oE P "__weakref__" 203 (.ref 25), oE P "__doc__" 204 (.none)].toArray 3), #[]⟩) ::
(nat_lit 24, ⟨.type "type", none, (.cls ({ name := "WordError", bases := [.type "ValueError"], mro := [.ref 24, .type "ValueError", .type "Exception", .type "BaseException", .type "object"], ns := 23, qualname := "WordError", hasDict := true, slotNames := [], subclasses := [.ref 44, .ref 56, .ref 68], abstract := false, collection := none, hasDel := false } : ClassData)), #[(some (.ref 15)), none, (some (.str "WordError" 189)), (some (.str "WordError" 197)), (some (.builtin "ValueError.__new__")), (some (.bool true))]⟩) ::
(nat_lit 25, ⟨.type "getset_descriptor", none, (.fields #[.str "__weakref__" 202, .ref 24, .builtin "ExceptionGroup.__weakref__", .none]), #[]⟩) ::
(nat_lit 28, ⟨.type "tuple", none, (.seq #[.ref 24] 0), #[]⟩) ::
(nat_lit 35, ⟨.type "tuple", none, (.seq #[] 0), #[]⟩) ::
(nat_lit 37, ⟨.type "tuple", none, (.seq #[.str "self" 222, .str "part" 223] 0), #[]⟩) ::
(nat_lit 38, ⟨.type "tuple", none, (.seq #[] 0), #[]⟩) ::
(nat_lit 40, ⟨.type "code", none, (.fields #[.str "__init__" 219, .str "WrongKind.__init__" 220, .str "/claim/cut.py" 221, .int (6) 0, .int (2) 0, .int (0) 0, .int (0) 0, .int (3) 0, .ref 35, .bool true, .int (181) 0, .ref 36, .none, .ref 37, .ref 38, .ref 39, .int (224) 0, .int (6) 0, .str "/claim/cut.py" 225]), #[]⟩) ::
(nat_lit 41, ⟨.type "function", none, (.func (PySem.W.fnOf "__init__" "WrongKind.__init__" (defArgs (inClass (top 2) 0)) (defBody (inClass (top 2) 0)) (defScope (inClass (top 2) 0)) (.none) (.none) (.none) (.str "markwords.errors" 187) none (.ref 40) (.none))), #[]⟩) ::
(nat_lit 42, ⟨.type "tuple", none, (.seq #[.str "part" 227] 0), #[]⟩) ::
(nat_lit 43, ⟨.type "dict", none, (.dict [oE P "__module__" 214 (.str "markwords.errors" 187), oE P "__firstlineno__" 218 (.int (4) 217), oE P "__init__" 226 (.ref 41), oE P "__static_attributes__" 228 (.ref 42), oE P "__doc__" 229 (.none)].toArray 2), #[]⟩) ::
(nat_lit 44, ⟨.type "type", none, (.cls ({ name := "WrongKind", bases := [.ref 24], mro := [.ref 44, .ref 24, .type "ValueError", .type "Exception", .type "BaseException", .type "object"], ns := 43, qualname := "WrongKind", hasDict := true, slotNames := [], subclasses := [], abstract := false, collection := none, hasDel := false } : ClassData)), #[(some (.ref 28)), none, (some (.str "WrongKind" 207)), (some (.str "WrongKind" 215)), (some (.builtin "ValueError.__new__")), (some (.bool true))]⟩) ::
(nat_lit 47, ⟨.type "tuple", none, (.seq #[.ref 24] 0), #[]⟩) ::
(nat_lit 54, ⟨.type "tuple", none, (.seq #[] 0), #[]⟩) ::
(nat_lit 55, ⟨.type "dict", none, (.dict [oE P "__module__" 239 (.str "markwords.errors" 187), oE P "__firstlineno__" 243 (.int (9) 242), oE P "__static_attributes__" 244 (.ref 54), oE P "__doc__" 245 (.none)].toArray 2), #[]⟩) ::
(nat_lit 56, ⟨.type "type", none, (.cls ({ name := "Nought", bases := [.ref 24], mro := [.ref 56, .ref 24, .type "ValueError", .type "Exception", .type "BaseException", .type "object"], ns := 55, qualname := "Nought", hasDict := true, slotNames := [], subclasses := [], abstract := false, collection := none, hasDel := false } : ClassData)), #[(some (.ref 47)), none, (some (.str "Nought" 232)), (some (.str "Nought" 240)), (some (.builtin "ValueError.__new__")), (some (.bool true))]⟩) ::
(nat_lit 59, ⟨.type "tuple", none, (.seq #[.ref 24] 0), #[]⟩) ::
(nat_lit 66, ⟨.type "tuple", none, (.seq #[] 0), #[]⟩) ::
(nat_lit 67, ⟨.type "dict", none, (.dict [oE P "__module__" 255 (.str "markwords.errors" 187), oE P "__firstlineno__" 259 (.int (11) 258), oE P "__static_attributes__" 260 (.ref 66), oE P "__doc__" 261 (.none)].toArray 2), #[]⟩) ::
(nat_lit 68, ⟨.type "type", none, (.cls ({ name := "NoRoom", bases := [.ref 24], mro := [.ref 68, .ref 24, .type "ValueError", .type "Exception", .type "BaseException", .type "object"], ns := 67, qualname := "NoRoom", hasDict := true, slotNames := [], subclasses := [], abstract := false, collection := none, hasDel := false } : ClassData)), #[(some (.ref 59)), none, (some (.str "NoRoom" 248)), (some (.str "NoRoom" 256)), (some (.builtin "ValueError.__new__")), (some (.bool true))]⟩) ::
(nat_lit 71, ⟨.type "tuple", none, (.seq #[] 0), #[]⟩) ::
(nat_lit 73, ⟨.type "tuple", none, (.seq #[.str "store" 269, .str "q" 270, .str "p" 271] 0), #[]⟩) ::
(nat_lit 74, ⟨.type "tuple", none, (.seq #[] 0), #[]⟩) ::
(nat_lit 76, ⟨.type "code", none, (.fields #[.str "need_numbers" 266, .str "need_numbers" 267, .str "/claim/cut.py" 268, .int (14) 0, .int (3) 0, .int (0) 0, .int (0) 0, .int (3) 0, .ref 71, .bool true, .int (181) 0, .ref 72, .none, .ref 73, .ref 74, .ref 75, .int (272) 0, .int (14) 0, .str "/claim/cut.py" 273]), #[]⟩) ::
(nat_lit 77, ⟨.type "function", none, (.func (PySem.W.fnOf "need_numbers" "need_numbers" (defArgs (top 6)) (defBody (top 6)) (defScope (top 6)) (.none) (.none) (.none) (.str "markwords.needs" 264) none (.ref 76) (.none))), #[]⟩) ::
(nat_lit 78, ⟨.type "tuple", none, (.seq #[] 0), #[]⟩) ::
(nat_lit 80, ⟨.type "tuple", none, (.seq #[.str "store" 278, .str "q" 279, .str "p" 280] 0), #[]⟩) ::
(nat_lit 81, ⟨.type "tuple", none, (.seq #[] 0), #[]⟩) ::
(nat_lit 83, ⟨.type "code", none, (.fields #[.str "need_divisor" 275, .str "need_divisor" 276, .str "/claim/cut.py" 277, .int (19) 0, .int (3) 0, .int (0) 0, .int (0) 0, .int (3) 0, .ref 78, .bool true, .int (181) 0, .ref 79, .none, .ref 80, .ref 81, .ref 82, .int (281) 0, .int (19) 0, .str "/claim/cut.py" 282]), #[]⟩) ::
(nat_lit 84, ⟨.type "function", none, (.func (PySem.W.fnOf "need_divisor" "need_divisor" (defArgs (top 7)) (defBody (top 7)) (defScope (top 7)) (.none) (.none) (.none) (.str "markwords.needs" 264) none (.ref 83) (.none))), #[]⟩) ::
(nat_lit 85, ⟨.type "tuple", none, (.seq #[] 0), #[]⟩) ::
(nat_lit 87, ⟨.type "tuple", none, (.seq #[.str "store" 287, .str "q" 288] 0), #[]⟩) ::
(nat_lit 88, ⟨.type "tuple", none, (.seq #[] 0), #[]⟩) ::
(nat_lit 90, ⟨.type "code", none, (.fields #[.str "need_pair" 284, .str "need_pair" 285, .str "/claim/cut.py" 286, .int (23) 0, .int (2) 0, .int (0) 0, .int (0) 0, .int (3) 0, .ref 85, .bool true, .int (181) 0, .ref 86, .none, .ref 87, .ref 88, .ref 89, .int (289) 0, .int (23) 0, .str "/claim/cut.py" 290]), #[]⟩) ::
(nat_lit 91, ⟨.type "function", none, (.func (PySem.W.fnOf "need_pair" "need_pair" (defArgs (top 8)) (defBody (top 8)) (defScope (top 8)) (.none) (.none) (.none) (.str "markwords.needs" 264) none (.ref 90) (.none))), #[]⟩) ::
(nat_lit 99, ⟨.type "tuple", none, (.seq #[] 0), #[]⟩) ::
(nat_lit 101, ⟨.type "tuple", none, (.seq #[.str "self" 311, .str "left" 312, .str "right" 313] 0), #[]⟩) ::
(nat_lit 102, ⟨.type "tuple", none, (.seq #[] 0), #[]⟩) ::
(nat_lit 104, ⟨.type "code", none, (.fields #[.str "__init__" 308, .str "Pair.__init__" 309, .str "/claim/cut.py" 310, .int (30) 0, .int (3) 0, .int (0) 0, .int (0) 0, .int (3) 0, .ref 99, .bool true, .int (181) 0, .ref 100, .none, .ref 101, .ref 102, .ref 103, .int (314) 0, .int (30) 0, .str "/claim/cut.py" 315]), #[]⟩) ::
(nat_lit 105, ⟨.type "function", none, (.func (PySem.W.fnOf "__init__" "Pair.__init__" (defArgs (inClass (top 11) 0)) (defBody (inClass (top 11) 0)) (defScope (inClass (top 11) 0)) (.none) (.none) (.none) (.str "markwords.plain" 292) none (.ref 104) (.none))), #[]⟩) ::
(nat_lit 106, ⟨.type "tuple", none, (.seq #[.str "left" 317, .str "right" 318] 0), #[]⟩) ::
(nat_lit 107, ⟨.type "dict", none, (.dict [oE P "__module__" 303 (.str "markwords.plain" 292), oE P "__firstlineno__" 307 (.int (28) 306), oE P "__init__" 316 (.ref 105), oE P "__static_attributes__" 319 (.ref 106), oE P "__dict__" 321 (.ref 109), oE P "__weakref__" 323 (.ref 110), oE P "__doc__" 324 (.none)].toArray 4), #[]⟩) ::
(nat_lit 108, ⟨.type "type", none, (.cls ({ name := "Pair", bases := [.type "object"], mro := [.ref 108, .type "object"], ns := 107, qualname := "Pair", hasDict := true, slotNames := [], subclasses := [], abstract := false, collection := none, hasDel := false } : ClassData)), #[none, none, (some (.str "Pair" 296)), (some (.str "Pair" 304)), (some (.builtin "object.__new__")), (some (.bool true))]⟩) ::
(nat_lit 109, ⟨.type "getset_descriptor", none, (.fields #[.str "__dict__" 320, .ref 108, .builtin "function.__dict__", .builtin "function.__dict__#set"]), #[]⟩) ::
(nat_lit 110, ⟨.type "getset_descriptor", none, (.fields #[.str "__weakref__" 322, .ref 108, .builtin "ExceptionGroup.__weakref__", .none]), #[]⟩) ::
(nat_lit 113, ⟨.type "tuple", none, (.seq #[] 0), #[]⟩) ::
(nat_lit 115, ⟨.type "tuple", none, (.seq #[.str "worth" 330] 0), #[]⟩) ::
(nat_lit 116, ⟨.type "tuple", none, (.seq #[] 0), #[]⟩) ::
(nat_lit 118, ⟨.type "code", none, (.fields #[.str "kind_of" 327, .str "kind_of" 328, .str "/claim/cut.py" 329, .int (33) 0, .int (1) 0, .int (0) 0, .int (0) 0, .int (3) 0, .ref 113, .bool true, .int (181) 0, .ref 114, .none, .ref 115, .ref 116, .ref 117, .int (331) 0, .int (33) 0, .str "/claim/cut.py" 332]), #[]⟩) ::
(nat_lit 119, ⟨.type "function", none, (.func (PySem.W.fnOf "kind_of" "kind_of" (defArgs (top 12)) (defBody (top 12)) (defScope (top 12)) (.none) (.none) (.none) (.str "markwords.plain" 292) none (.ref 118) (.none))), #[]⟩) ::
(nat_lit 127, ⟨.type "tuple", none, (.seq #[] 0), #[]⟩) ::
(nat_lit 129, ⟨.type "tuple", none, (.seq #[.str "self" 349] 0), #[]⟩) ::
(nat_lit 130, ⟨.type "tuple", none, (.seq #[] 0), #[]⟩) ::
(nat_lit 132, ⟨.type "code", none, (.fields #[.str "__init__" 346, .str "PlainStore.__init__" 347, .str "/claim/cut.py" 348, .int (43) 0, .int (1) 0, .int (0) 0, .int (0) 0, .int (3) 0, .ref 127, .bool true, .int (181) 0, .ref 128, .none, .ref 129, .ref 130, .ref 131, .int (350) 0, .int (43) 0, .str "/claim/cut.py" 351]), #[]⟩) ::
(nat_lit 133, ⟨.type "function", none, (.func (PySem.W.fnOf "__init__" "PlainStore.__init__" (defArgs (inClass (top 13) 0)) (defBody (inClass (top 13) 0)) (defScope (inClass (top 13) 0)) (.none) (.none) (.none) (.str "markwords.plain" 292) none (.ref 132) (.none))), #[]⟩) ::
(nat_lit 134, ⟨.type "tuple", none, (.seq #[] 0), #[]⟩) ::
(nat_lit 136, ⟨.type "tuple", none, (.seq #[.str "self" 356, .str "q" 357] 0), #[]⟩) ::
(nat_lit 137, ⟨.type "tuple", none, (.seq #[] 0), #[]⟩) ::
(nat_lit 139, ⟨.type "code", none, (.fields #[.str "pair_in" 353, .str "PlainStore.pair_in" 354, .str "/claim/cut.py" 355, .int (46) 0, .int (2) 0, .int (0) 0, .int (0) 0, .int (3) 0, .ref 134, .bool true, .int (181) 0, .ref 135, .none, .ref 136, .ref 137, .ref 138, .int (358) 0, .int (46) 0, .str "/claim/cut.py" 359]), #[]⟩) ::
(nat_lit 140, ⟨.type "function", none, (.func (PySem.W.fnOf "pair_in" "PlainStore.pair_in" (defArgs (inClass (top 13) 1)) (defBody (inClass (top 13) 1)) (defScope (inClass (top 13) 1)) (.none) (.none) (.none) (.str "markwords.plain" 292) none (.ref 139) (.none))), #[]⟩) ::
(nat_lit 141, ⟨.type "tuple", none, (.seq #[] 0), #[]⟩) ::
(nat_lit 143, ⟨.type "tuple", none, (.seq #[.str "self" 364, .str "r" 365, .str "n" 366] 0), #[]⟩) ::
(nat_lit 144, ⟨.type "tuple", none, (.seq #[] 0), #[]⟩) ::
(nat_lit 146, ⟨.type "code", none, (.fields #[.str "number" 361, .str "PlainStore.number" 362, .str "/claim/cut.py" 363, .int (50) 0, .int (3) 0, .int (0) 0, .int (0) 0, .int (3) 0, .ref 141, .bool true, .int (181) 0, .ref 142, .none, .ref 143, .ref 144, .ref 145, .int (367) 0, .int (50) 0, .str "/claim/cut.py" 368]), #[]⟩) ::
(nat_lit 147, ⟨.type "function", none, (.func (PySem.W.fnOf "number" "PlainStore.number" (defArgs (inClass (top 13) 2)) (defBody (inClass (top 13) 2)) (defScope (inClass (top 13) 2)) (.none) (.none) (.none) (.str "markwords.plain" 292) none (.ref 146) (.none))), #[]⟩) ::
(nat_lit 148, ⟨.type "tuple", none, (.seq #[] 0), #[]⟩) ::
(nat_lit 150, ⟨.type "tuple", none, (.seq #[.str "self" 373, .str "r" 374, .str "k" 375] 0), #[]⟩) ::
(nat_lit 151, ⟨.type "tuple", none, (.seq #[] 0), #[]⟩) ::
(nat_lit 153, ⟨.type "code", none, (.fields #[.str "sign" 370, .str "PlainStore.sign" 371, .str "/claim/cut.py" 372, .int (53) 0, .int (3) 0, .int (0) 0, .int (0) 0, .int (3) 0, .ref 148, .bool true, .int (181) 0, .ref 149, .none, .ref 150, .ref 151, .ref 152, .int (376) 0, .int (53) 0, .str "/claim/cut.py" 377]), #[]⟩) ::
(nat_lit 154, ⟨.type "function", none, (.func (PySem.W.fnOf "sign" "PlainStore.sign" (defArgs (inClass (top 13) 3)) (defBody (inClass (top 13) 3)) (defScope (inClass (top 13) 3)) (.none) (.none) (.none) (.str "markwords.plain" 292) none (.ref 153) (.none))), #[]⟩) ::
(nat_lit 155, ⟨.type "tuple", none, (.seq #[] 0), #[]⟩) ::
(nat_lit 157, ⟨.type "tuple", none, (.seq #[.str "self" 382, .str "r" 383, .str "text" 384] 0), #[]⟩) ::
(nat_lit 158, ⟨.type "tuple", none, (.seq #[] 0), #[]⟩) ::
(nat_lit 160, ⟨.type "code", none, (.fields #[.str "one" 379, .str "PlainStore.one" 380, .str "/claim/cut.py" 381, .int (56) 0, .int (3) 0, .int (0) 0, .int (0) 0, .int (3) 0, .ref 155, .bool true, .int (181) 0, .ref 156, .none, .ref 157, .ref 158, .ref 159, .int (385) 0, .int (56) 0, .str "/claim/cut.py" 386]), #[]⟩) ::
(nat_lit 161, ⟨.type "function", none, (.func (PySem.W.fnOf "one" "PlainStore.one" (defArgs (inClass (top 13) 4)) (defBody (inClass (top 13) 4)) (defScope (inClass (top 13) 4)) (.none) (.none) (.none) (.str "markwords.plain" 292) none (.ref 160) (.none))), #[]⟩) ::
(nat_lit 162, ⟨.type "tuple", none, (.seq #[] 0), #[]⟩) ::
(nat_lit 164, ⟨.type "tuple", none, (.seq #[.str "self" 391, .str "r" 392, .str "q" 393] 0), #[]⟩) ::
(nat_lit 165, ⟨.type "tuple", none, (.seq #[] 0), #[]⟩) ::
(nat_lit 167, ⟨.type "code", none, (.fields #[.str "copy" 388, .str "PlainStore.copy" 389, .str "/claim/cut.py" 390, .int (59) 0, .int (3) 0, .int (0) 0, .int (0) 0, .int (3) 0, .ref 162, .bool true, .int (181) 0, .ref 163, .none, .ref 164, .ref 165, .ref 166, .int (394) 0, .int (59) 0, .str "/claim/cut.py" 395]), #[]⟩) ::
(nat_lit 168, ⟨.type "function", none, (.func (PySem.W.fnOf "copy" "PlainStore.copy" (defArgs (inClass (top 13) 5)) (defBody (inClass (top 13) 5)) (defScope (inClass (top 13) 5)) (.none) (.none) (.none) (.str "markwords.plain" 292) none (.ref 167) (.none))), #[]⟩) ::
(nat_lit 169, ⟨.type "tuple", none, (.seq #[] 0), #[]⟩) ::
(nat_lit 171, ⟨.type "tuple", none, (.seq #[.str "self" 400, .str "r" 401, .str "q" 402, .str "p" 403] 0), #[]⟩) ::
(nat_lit 172, ⟨.type "tuple", none, (.seq #[] 0), #[]⟩) ::
(nat_lit 174, ⟨.type "code", none, (.fields #[.str "plus" 397, .str "PlainStore.plus" 398, .str "/claim/cut.py" 399, .int (62) 0, .int (4) 0, .int (0) 0, .int (0) 0, .int (3) 0, .ref 169, .bool true, .int (181) 0, .ref 170, .none, .ref 171, .ref 172, .ref 173, .int (404) 0, .int (62) 0, .str "/claim/cut.py" 405]), #[]⟩) ::
(nat_lit 175, ⟨.type "function", none, (.func (PySem.W.fnOf "plus" "PlainStore.plus" (defArgs (inClass (top 13) 6)) (defBody (inClass (top 13) 6)) (defScope (inClass (top 13) 6)) (.none) (.none) (.none) (.str "markwords.plain" 292) none (.ref 174) (.none))), #[]⟩) ::
(nat_lit 176, ⟨.type "tuple", none, (.seq #[] 0), #[]⟩) ::
(nat_lit 178, ⟨.type "tuple", none, (.seq #[.str "self" 410, .str "r" 411, .str "q" 412, .str "p" 413] 0), #[]⟩) ::
(nat_lit 179, ⟨.type "tuple", none, (.seq #[] 0), #[]⟩) ::
(nat_lit 181, ⟨.type "code", none, (.fields #[.str "less" 407, .str "PlainStore.less" 408, .str "/claim/cut.py" 409, .int (66) 0, .int (4) 0, .int (0) 0, .int (0) 0, .int (3) 0, .ref 176, .bool true, .int (181) 0, .ref 177, .none, .ref 178, .ref 179, .ref 180, .int (414) 0, .int (66) 0, .str "/claim/cut.py" 415]), #[]⟩) ::
(nat_lit 182, ⟨.type "function", none, (.func (PySem.W.fnOf "less" "PlainStore.less" (defArgs (inClass (top 13) 7)) (defBody (inClass (top 13) 7)) (defScope (inClass (top 13) 7)) (.none) (.none) (.none) (.str "markwords.plain" 292) none (.ref 181) (.none))), #[]⟩) ::
(nat_lit 183, ⟨.type "tuple", none, (.seq #[] 0), #[]⟩) ::
(nat_lit 185, ⟨.type "tuple", none, (.seq #[.str "self" 420, .str "r" 421, .str "q" 422, .str "p" 423] 0), #[]⟩) ::
(nat_lit 186, ⟨.type "tuple", none, (.seq #[] 0), #[]⟩) ::
(nat_lit 188, ⟨.type "code", none, (.fields #[.str "times" 417, .str "PlainStore.times" 418, .str "/claim/cut.py" 419, .int (70) 0, .int (4) 0, .int (0) 0, .int (0) 0, .int (3) 0, .ref 183, .bool true, .int (181) 0, .ref 184, .none, .ref 185, .ref 186, .ref 187, .int (424) 0, .int (70) 0, .str "/claim/cut.py" 425]), #[]⟩) ::
(nat_lit 189, ⟨.type "function", none, (.func (PySem.W.fnOf "times" "PlainStore.times" (defArgs (inClass (top 13) 8)) (defBody (inClass (top 13) 8)) (defScope (inClass (top 13) 8)) (.none) (.none) (.none) (.str "markwords.plain" 292) none (.ref 188) (.none))), #[]⟩) ::
(nat_lit 190, ⟨.type "tuple", none, (.seq #[] 0), #[]⟩) ::
(nat_lit 192, ⟨.type "tuple", none, (.seq #[.str "self" 430, .str "r" 431, .str "q" 432, .str "p" 433] 0), #[]⟩) ::
(nat_lit 193, ⟨.type "tuple", none, (.seq #[] 0), #[]⟩) ::
(nat_lit 195, ⟨.type "code", none, (.fields #[.str "over" 427, .str "PlainStore.over" 428, .str "/claim/cut.py" 429, .int (74) 0, .int (4) 0, .int (0) 0, .int (0) 0, .int (3) 0, .ref 190, .bool true, .int (181) 0, .ref 191, .none, .ref 192, .ref 193, .ref 194, .int (434) 0, .int (74) 0, .str "/claim/cut.py" 435]), #[]⟩) ::
(nat_lit 196, ⟨.type "function", none, (.func (PySem.W.fnOf "over" "PlainStore.over" (defArgs (inClass (top 13) 9)) (defBody (inClass (top 13) 9)) (defScope (inClass (top 13) 9)) (.none) (.none) (.none) (.str "markwords.plain" 292) none (.ref 195) (.none))), #[]⟩) ::
(nat_lit 197, ⟨.type "tuple", none, (.seq #[] 0), #[]⟩) ::
(nat_lit 199, ⟨.type "tuple", none, (.seq #[.str "self" 440, .str "r" 441, .str "q" 442, .str "p" 443] 0), #[]⟩) ::
(nat_lit 200, ⟨.type "tuple", none, (.seq #[] 0), #[]⟩) ::
(nat_lit 202, ⟨.type "code", none, (.fields #[.str "rest" 437, .str "PlainStore.rest" 438, .str "/claim/cut.py" 439, .int (78) 0, .int (4) 0, .int (0) 0, .int (0) 0, .int (3) 0, .ref 197, .bool true, .int (181) 0, .ref 198, .none, .ref 199, .ref 200, .ref 201, .int (444) 0, .int (78) 0, .str "/claim/cut.py" 445]), #[]⟩) ::
(nat_lit 203, ⟨.type "function", none, (.func (PySem.W.fnOf "rest" "PlainStore.rest" (defArgs (inClass (top 13) 10)) (defBody (inClass (top 13) 10)) (defScope (inClass (top 13) 10)) (.none) (.none) (.none) (.str "markwords.plain" 292) none (.ref 202) (.none))), #[]⟩) ::
(nat_lit 204, ⟨.type "tuple", none, (.seq #[] 0), #[]⟩) ::
(nat_lit 206, ⟨.type "tuple", none, (.seq #[.str "self" 450, .str "r" 451, .str "q" 452, .str "p" 453] 0), #[]⟩) ::
(nat_lit 207, ⟨.type "tuple", none, (.seq #[] 0), #[]⟩) ::
(nat_lit 209, ⟨.type "code", none, (.fields #[.str "pair" 447, .str "PlainStore.pair" 448, .str "/claim/cut.py" 449, .int (82) 0, .int (4) 0, .int (0) 0, .int (0) 0, .int (3) 0, .ref 204, .bool true, .int (181) 0, .ref 205, .none, .ref 206, .ref 207, .ref 208, .int (454) 0, .int (82) 0, .str "/claim/cut.py" 455]), #[]⟩) ::
(nat_lit 210, ⟨.type "function", none, (.func (PySem.W.fnOf "pair" "PlainStore.pair" (defArgs (inClass (top 13) 11)) (defBody (inClass (top 13) 11)) (defScope (inClass (top 13) 11)) (.none) (.none) (.none) (.str "markwords.plain" 292) none (.ref 209) (.none))), #[]⟩) ::
(nat_lit 211, ⟨.type "tuple", none, (.seq #[] 0), #[]⟩) ::
(nat_lit 213, ⟨.type "tuple", none, (.seq #[.str "self" 460, .str "r" 461, .str "q" 462] 0), #[]⟩) ::
(nat_lit 214, ⟨.type "tuple", none, (.seq #[] 0), #[]⟩) ::
(nat_lit 216, ⟨.type "code", none, (.fields #[.str "first" 457, .str "PlainStore.first" 458, .str "/claim/cut.py" 459, .int (85) 0, .int (3) 0, .int (0) 0, .int (0) 0, .int (3) 0, .ref 211, .bool true, .int (181) 0, .ref 212, .none, .ref 213, .ref 214, .ref 215, .int (463) 0, .int (85) 0, .str "/claim/cut.py" 464]), #[]⟩) ::
(nat_lit 217, ⟨.type "function", none, (.func (PySem.W.fnOf "first" "PlainStore.first" (defArgs (inClass (top 13) 12)) (defBody (inClass (top 13) 12)) (defScope (inClass (top 13) 12)) (.none) (.none) (.none) (.str "markwords.plain" 292) none (.ref 216) (.none))), #[]⟩) ::
(nat_lit 218, ⟨.type "tuple", none, (.seq #[] 0), #[]⟩) ::
(nat_lit 220, ⟨.type "tuple", none, (.seq #[.str "self" 469, .str "r" 470, .str "q" 471] 0), #[]⟩) ::
(nat_lit 221, ⟨.type "tuple", none, (.seq #[] 0), #[]⟩) ::
(nat_lit 223, ⟨.type "code", none, (.fields #[.str "second" 466, .str "PlainStore.second" 467, .str "/claim/cut.py" 468, .int (88) 0, .int (3) 0, .int (0) 0, .int (0) 0, .int (3) 0, .ref 218, .bool true, .int (181) 0, .ref 219, .none, .ref 220, .ref 221, .ref 222, .int (472) 0, .int (88) 0, .str "/claim/cut.py" 473]), #[]⟩) ::
(nat_lit 224, ⟨.type "function", none, (.func (PySem.W.fnOf "second" "PlainStore.second" (defArgs (inClass (top 13) 13)) (defBody (inClass (top 13) 13)) (defScope (inClass (top 13) 13)) (.none) (.none) (.none) (.str "markwords.plain" 292) none (.ref 223) (.none))), #[]⟩) ::
(nat_lit 225, ⟨.type "tuple", none, (.seq #[] 0), #[]⟩) ::
(nat_lit 227, ⟨.type "tuple", none, (.seq #[.str "self" 478, .str "q" 479, .str "p" 480, .str "changed" 481] 0), #[]⟩) ::
(nat_lit 228, ⟨.type "tuple", none, (.seq #[] 0), #[]⟩) ::
(nat_lit 230, ⟨.type "code", none, (.fields #[.str "set_first" 475, .str "PlainStore.set_first" 476, .str "/claim/cut.py" 477, .int (91) 0, .int (3) 0, .int (0) 0, .int (0) 0, .int (3) 0, .ref 225, .bool true, .int (181) 0, .ref 226, .none, .ref 227, .ref 228, .ref 229, .int (482) 0, .int (91) 0, .str "/claim/cut.py" 483]), #[]⟩) ::
(nat_lit 231, ⟨.type "function", none, (.func (PySem.W.fnOf "set_first" "PlainStore.set_first" (defArgs (inClass (top 13) 14)) (defBody (inClass (top 13) 14)) (defScope (inClass (top 13) 14)) (.none) (.none) (.none) (.str "markwords.plain" 292) none (.ref 230) (.none))), #[]⟩) ::
(nat_lit 232, ⟨.type "tuple", none, (.seq #[] 0), #[]⟩) ::
(nat_lit 234, ⟨.type "tuple", none, (.seq #[.str "self" 488, .str "q" 489, .str "p" 490, .str "changed" 491] 0), #[]⟩) ::
(nat_lit 235, ⟨.type "tuple", none, (.seq #[] 0), #[]⟩) ::
(nat_lit 237, ⟨.type "code", none, (.fields #[.str "set_second" 485, .str "PlainStore.set_second" 486, .str "/claim/cut.py" 487, .int (95) 0, .int (3) 0, .int (0) 0, .int (0) 0, .int (3) 0, .ref 232, .bool true, .int (181) 0, .ref 233, .none, .ref 234, .ref 235, .ref 236, .int (492) 0, .int (95) 0, .str "/claim/cut.py" 493]), #[]⟩) ::
(nat_lit 238, ⟨.type "function", none, (.func (PySem.W.fnOf "set_second" "PlainStore.set_second" (defArgs (inClass (top 13) 15)) (defBody (inClass (top 13) 15)) (defScope (inClass (top 13) 15)) (.none) (.none) (.none) (.str "markwords.plain" 292) none (.ref 237) (.none))), #[]⟩) ::
(nat_lit 239, ⟨.type "tuple", none, (.seq #[] 0), #[]⟩) ::
(nat_lit 241, ⟨.type "tuple", none, (.seq #[.str "self" 498, .str "q" 499, .str "p" 500] 0), #[]⟩) ::
(nat_lit 242, ⟨.type "tuple", none, (.seq #[] 0), #[]⟩) ::
(nat_lit 244, ⟨.type "code", none, (.fields #[.str "below" 495, .str "PlainStore.below" 496, .str "/claim/cut.py" 497, .int (99) 0, .int (3) 0, .int (0) 0, .int (0) 0, .int (3) 0, .ref 239, .bool true, .int (181) 0, .ref 240, .none, .ref 241, .ref 242, .ref 243, .int (501) 0, .int (99) 0, .str "/claim/cut.py" 502]), #[]⟩) ::
(nat_lit 245, ⟨.type "function", none, (.func (PySem.W.fnOf "below" "PlainStore.below" (defArgs (inClass (top 13) 16)) (defBody (inClass (top 13) 16)) (defScope (inClass (top 13) 16)) (.none) (.none) (.none) (.str "markwords.plain" 292) none (.ref 244) (.none))), #[]⟩) ::
(nat_lit 246, ⟨.type "tuple", none, (.seq #[] 0), #[]⟩) ::
(nat_lit 248, ⟨.type "tuple", none, (.seq #[.str "self" 507, .str "q" 508, .str "p" 509] 0), #[]⟩) ::
(nat_lit 249, ⟨.type "tuple", none, (.seq #[] 0), #[]⟩) ::
(nat_lit 251, ⟨.type "code", none, (.fields #[.str "same" 504, .str "PlainStore.same" 505, .str "/claim/cut.py" 506, .int (103) 0, .int (3) 0, .int (0) 0, .int (0) 0, .int (3) 0, .ref 246, .bool true, .int (181) 0, .ref 247, .none, .ref 248, .ref 249, .ref 250, .int (510) 0, .int (103) 0, .str "/claim/cut.py" 511]), #[]⟩) ::
(nat_lit 252, ⟨.type "function", none, (.func (PySem.W.fnOf "same" "PlainStore.same" (defArgs (inClass (top 13) 17)) (defBody (inClass (top 13) 17)) (defScope (inClass (top 13) 17)) (.none) (.none) (.none) (.str "markwords.plain" 292) none (.ref 251) (.none))), #[]⟩) ::
(nat_lit 253, ⟨.type "tuple", none, (.seq #[] 0), #[]⟩) ::
(nat_lit 255, ⟨.type "tuple", none, (.seq #[.str "self" 516, .str "q" 517] 0), #[]⟩) ::
(nat_lit 256, ⟨.type "tuple", none, (.seq #[] 0), #[]⟩) ::
(nat_lit 258, ⟨.type "code", none, (.fields #[.str "kind" 513, .str "PlainStore.kind" 514, .str "/claim/cut.py" 515, .int (106) 0, .int (2) 0, .int (0) 0, .int (0) 0, .int (3) 0, .ref 253, .bool true, .int (181) 0, .ref 254, .none, .ref 255, .ref 256, .ref 257, .int (518) 0, .int (106) 0, .str "/claim/cut.py" 519]), #[]⟩) ::
(nat_lit 259, ⟨.type "function", none, (.func (PySem.W.fnOf "kind" "PlainStore.kind" (defArgs (inClass (top 13) 18)) (defBody (inClass (top 13) 18)) (defScope (inClass (top 13) 18)) (.none) (.none) (.none) (.str "markwords.plain" 292) none (.ref 258) (.none))), #[]⟩) ::
(nat_lit 260, ⟨.type "tuple", none, (.seq #[] 0), #[]⟩) ::
(nat_lit 262, ⟨.type "tuple", none, (.seq #[.str "self" 524, .str "q" 525, .str "worth" 526] 0), #[]⟩) ::
(nat_lit 263, ⟨.type "tuple", none, (.seq #[] 0), #[]⟩) ::
(nat_lit 265, ⟨.type "code", none, (.fields #[.str "told" 521, .str "PlainStore.told" 522, .str "/claim/cut.py" 523, .int (109) 0, .int (2) 0, .int (0) 0, .int (0) 0, .int (3) 0, .ref 260, .bool true, .int (181) 0, .ref 261, .none, .ref 262, .ref 263, .ref 264, .int (527) 0, .int (109) 0, .str "/claim/cut.py" 528]), #[]⟩) ::
(nat_lit 266, ⟨.type "function", none, (.func (PySem.W.fnOf "told" "PlainStore.told" (defArgs (inClass (top 13) 19)) (defBody (inClass (top 13) 19)) (defScope (inClass (top 13) 19)) (.none) (.none) (.none) (.str "markwords.plain" 292) none (.ref 265) (.none))), #[]⟩) ::
(nat_lit 267, ⟨.type "tuple", none, (.seq #[.str "held" 530] 0), #[]⟩) ::
(nat_lit 268, ⟨.type "dict", none, (.dict [oE P "__module__" 341 (.str "markwords.plain" 292), oE P "__firstlineno__" 345 (.int (41) 344), oE P "__init__" 352 (.ref 133), oE P "pair_in" 360 (.ref 140), oE P "number" 369 (.ref 147), oE P "sign" 378 (.ref 154), oE P "one" 387 (.ref 161), oE P "copy" 396 (.ref 168), oE P "plus" 406 (.ref 175), oE P "less" 416 (.ref 182), oE P "times" 426 (.ref 189), oE P "over" 436 (.ref 196), oE P "rest" 446 (.ref 203), oE P "pair" 456 (.ref 210), oE P "first" 465 (.ref 217), oE P "second" 474 (.ref 224), oE P "set_first" 484 (.ref 231), oE P "set_second" 494 (.ref 238), oE P "below" 503 (.ref 245), oE P "same" 512 (.ref 252), oE P "kind" 520 (.ref 259), oE P "told" 529 (.ref 266), oE P "__static_attributes__" 531 (.ref 267), oE P "__dict__" 533 (.ref 270), oE P "__weakref__" 535 (.ref 271), oE P "__doc__" 536 (.none)].toArray 4), #[]⟩) ::
(nat_lit 269, ⟨.type "type", none, (.cls ({ name := "PlainStore", bases := [.type "object"], mro := [.ref 269, .type "object"], ns := 268, qualname := "PlainStore", hasDict := true, slotNames := [], subclasses := [], abstract := false, collection := none, hasDel := false } : ClassData)), #[none, none, (some (.str "PlainStore" 334)), (some (.str "PlainStore" 342)), (some (.builtin "object.__new__")), (some (.bool true))]⟩) ::
(nat_lit 270, ⟨.type "getset_descriptor", none, (.fields #[.str "__dict__" 532, .ref 269, .builtin "function.__dict__", .builtin "function.__dict__#set"]), #[]⟩) ::
(nat_lit 271, ⟨.type "getset_descriptor", none, (.fields #[.str "__weakref__" 534, .ref 269, .builtin "ExceptionGroup.__weakref__", .none]), #[]⟩) ::
(nat_lit 274, ⟨.type "tuple", none, (.seq #[] 0), #[]⟩) ::
(nat_lit 277, ⟨.type "code", none, (.fields #[.str "_law_bag" 541, .str "_law_bag" 542, .str "/claim/cut.py" 543, .int (113) 0, .int (1) 0, .int (0) 0, .int (0) 0, .int (3) 0, .ref 274, .bool true, .int (181) 0, .ref 275, .none, .none, .none, .ref 276, .int (544) 0, .int (113) 0, .str "/claim/cut.py" 545]), #[]⟩) ::
(nat_lit 278, ⟨.type "function", none, (.func (PySem.W.fnOf "_law_bag" "_law_bag" (defArgs (top 15)) (defBody (top 15)) (defScope (top 15)) (.none) (.none) (.none) (.str "law_markwords_k03_quotients" 539) none (.ref 277) (.none))), #[]⟩) ::
(nat_lit 279, ⟨.type "tuple", none, (.seq #[] 0), #[]⟩) ::
(nat_lit 281, ⟨.type "tuple", none, (.seq #[.str "bag" 550, .str "many" 551, .str "found" 552] 0), #[]⟩) ::
(nat_lit 282, ⟨.type "tuple", none, (.seq #[] 0), #[]⟩) ::
(nat_lit 284, ⟨.type "code", none, (.fields #[.str "_law_draw" 547, .str "_law_draw" 548, .str "/claim/cut.py" 549, .int (118) 0, .int (2) 0, .int (0) 0, .int (0) 0, .int (3) 0, .ref 279, .bool true, .int (181) 0, .ref 280, .none, .ref 281, .ref 282, .ref 283, .int (553) 0, .int (118) 0, .str "/claim/cut.py" 554]), #[]⟩) ::
(nat_lit 285, ⟨.type "function", none, (.func (PySem.W.fnOf "_law_draw" "_law_draw" (defArgs (top 16)) (defBody (top 16)) (defScope (top 16)) (.none) (.none) (.none) (.str "law_markwords_k03_quotients" 539) none (.ref 284) (.none))), #[]⟩) ::
(nat_lit 286, ⟨.type "tuple", none, (.seq #[] 0), #[]⟩) ::
(nat_lit 288, ⟨.type "tuple", none, (.seq #[.str "word" 559, .str "a" 560, .str "b" 561] 0), #[]⟩) ::
(nat_lit 289, ⟨.type "tuple", none, (.seq #[] 0), #[]⟩) ::
(nat_lit 291, ⟨.type "code", none, (.fields #[.str "_law_reckoned" 556, .str "_law_reckoned" 557, .str "/claim/cut.py" 558, .int (129) 0, .int (3) 0, .int (0) 0, .int (0) 0, .int (3) 0, .ref 286, .bool true, .int (181) 0, .ref 287, .none, .ref 288, .ref 289, .ref 290, .int (562) 0, .int (129) 0, .str "/claim/cut.py" 563]), #[]⟩) ::
(nat_lit 292, ⟨.type "function", none, (.func (PySem.W.fnOf "_law_reckoned" "_law_reckoned" (defArgs (top 17)) (defBody (top 17)) (defScope (top 17)) (.none) (.none) (.none) (.str "law_markwords_k03_quotients" 539) none (.ref 291) (.none))), #[]⟩) ::
(nat_lit 293, ⟨.type "tuple", none, (.seq #[] 0), #[]⟩) ::
(nat_lit 295, ⟨.type "tuple", none, (.seq #[.str "store" 568, .str "deed" 569, .str "word" 570] 0), #[]⟩) ::
(nat_lit 296, ⟨.type "tuple", none, (.seq #[] 0), #[]⟩) ::
(nat_lit 298, ⟨.type "code", none, (.fields #[.str "_law_deed_done" 565, .str "_law_deed_done" 566, .str "/claim/cut.py" 567, .int (137) 0, .int (2) 0, .int (0) 0, .int (0) 0, .int (3) 0, .ref 293, .bool true, .int (181) 0, .ref 294, .none, .ref 295, .ref 296, .ref 297, .int (571) 0, .int (137) 0, .str "/claim/cut.py" 572]), #[]⟩) ::
(nat_lit 299, ⟨.type "function", none, (.func (PySem.W.fnOf "_law_deed_done" "_law_deed_done" (defArgs (top 18)) (defBody (top 18)) (defScope (top 18)) (.none) (.none) (.none) (.str "law_markwords_k03_quotients" 539) none (.ref 298) (.none))), #[]⟩) ::
(nat_lit 300, ⟨.type "tuple", none, (.seq #[] 0), #[]⟩) ::
(nat_lit 302, ⟨.type "tuple", none, (.seq #[.str "store" 577, .str "deed" 578, .str "word" 579, .str "value" 580, .str "e" 581] 0), #[]⟩) ::
(nat_lit 303, ⟨.type "tuple", none, (.seq #[] 0), #[]⟩) ::
(nat_lit 305, ⟨.type "code", none, (.fields #[.str "_law_done" 574, .str "_law_done" 575, .str "/claim/cut.py" 576, .int (172) 0, .int (2) 0, .int (0) 0, .int (0) 0, .int (3) 0, .ref 300, .bool true, .int (181) 0, .ref 301, .none, .ref 302, .ref 303, .ref 304, .int (582) 0, .int (172) 0, .str "/claim/cut.py" 583]), #[]⟩) ::
(nat_lit 306, ⟨.type "function", none, (.func (PySem.W.fnOf "_law_done" "_law_done" (defArgs (top 19)) (defBody (top 19)) (defScope (top 19)) (.none) (.none) (.none) (.str "law_markwords_k03_quotients" 539) none (.ref 305) (.none))), #[]⟩) ::
(nat_lit 307, ⟨.type "tuple", none, (.seq #[] 0), #[]⟩) ::
(nat_lit 310, ⟨.type "code", none, (.fields #[.str "_law_alike" 585, .str "_law_alike" 586, .str "/claim/cut.py" 587, .int (185) 0, .int (2) 0, .int (0) 0, .int (0) 0, .int (3) 0, .ref 307, .bool true, .int (181) 0, .ref 308, .none, .none, .none, .ref 309, .int (588) 0, .int (185) 0, .str "/claim/cut.py" 589]), #[]⟩) ::
(nat_lit 311, ⟨.type "function", none, (.func (PySem.W.fnOf "_law_alike" "_law_alike" (defArgs (top 20)) (defBody (top 20)) (defScope (top 20)) (.none) (.none) (.none) (.str "law_markwords_k03_quotients" 539) none (.ref 310) (.none))), #[]⟩) ::
(nat_lit 312, ⟨.type "tuple", none, (.seq #[] 0), #[]⟩) ::
(nat_lit 314, ⟨.type "tuple", none, (.seq #[.str "bag" 594, .str "kind" 595, .str "sign" 596] 0), #[]⟩) ::
(nat_lit 315, ⟨.type "tuple", none, (.seq #[] 0), #[]⟩) ::
(nat_lit 317, ⟨.type "code", none, (.fields #[.str "_law_any_number" 591, .str "_law_any_number" 592, .str "/claim/cut.py" 593, .int (195) 0, .int (1) 0, .int (0) 0, .int (0) 0, .int (3) 0, .ref 312, .bool true, .int (181) 0, .ref 313, .none, .ref 314, .ref 315, .ref 316, .int (597) 0, .int (195) 0, .str "/claim/cut.py" 598]), #[]⟩) ::
(nat_lit 318, ⟨.type "function", none, (.func (PySem.W.fnOf "_law_any_number" "_law_any_number" (defArgs (top 21)) (defBody (top 21)) (defScope (top 21)) (.none) (.none) (.none) (.str "law_markwords_k03_quotients" 539) none (.ref 317) (.none))), #[]⟩) ::
(nat_lit 319, ⟨.type "tuple", none, (.seq #[] 0), #[]⟩) ::
(nat_lit 321, ⟨.type "tuple", none, (.seq #[.str "worth" 603] 0), #[]⟩) ::
(nat_lit 322, ⟨.type "tuple", none, (.seq #[] 0), #[]⟩) ::
(nat_lit 324, ⟨.type "code", none, (.fields #[.str "_law_own_kind" 600, .str "_law_own_kind" 601, .str "/claim/cut.py" 602, .int (203) 0, .int (1) 0, .int (0) 0, .int (0) 0, .int (3) 0, .ref 319, .bool true, .int (181) 0, .ref 320, .none, .ref 321, .ref 322, .ref 323, .int (604) 0, .int (203) 0, .str "/claim/cut.py" 605]), #[]⟩) ::
(nat_lit 325, ⟨.type "function", none, (.func (PySem.W.fnOf "_law_own_kind" "_law_own_kind" (defArgs (top 22)) (defBody (top 22)) (defScope (top 22)) (.none) (.none) (.none) (.str "law_markwords_k03_quotients" 539) none (.ref 324) (.none))), #[]⟩) ::
(nat_lit 326, ⟨.type "tuple", none, (.seq #[] 0), #[]⟩) ::
(nat_lit 328, ⟨.type "tuple", none, (.seq #[.str "own" 610, .str "deed" 611, .str "word" 612, .str "r" 613, .str "q" 614, .str "p" 615, .str "part" 616, .str "at" 617, .str "a" 618, .str "b" 619] 0), #[]⟩) ::
(nat_lit 329, ⟨.type "tuple", none, (.seq #[] 0), #[]⟩) ::
(nat_lit 331, ⟨.type "code", none, (.fields #[.str "_law_own_numbers" 607, .str "_law_own_numbers" 608, .str "/claim/cut.py" 609, .int (209) 0, .int (2) 0, .int (0) 0, .int (0) 0, .int (3) 0, .ref 326, .bool true, .int (181) 0, .ref 327, .none, .ref 328, .ref 329, .ref 330, .int (620) 0, .int (209) 0, .str "/claim/cut.py" 621]), #[]⟩) ::
(nat_lit 332, ⟨.type "function", none, (.func (PySem.W.fnOf "_law_own_numbers" "_law_own_numbers" (defArgs (top 23)) (defBody (top 23)) (defScope (top 23)) (.none) (.none) (.none) (.str "law_markwords_k03_quotients" 539) none (.ref 331) (.none))), #[]⟩) ::
(nat_lit 333, ⟨.type "tuple", none, (.seq #[] 0), #[]⟩) ::
(nat_lit 335, ⟨.type "tuple", none, (.seq #[.str "own" 626, .str "deed" 627, .str "word" 628, .str "some" 629, .str "q" 630, .str "thing" 631] 0), #[]⟩) ::
(nat_lit 336, ⟨.type "tuple", none, (.seq #[] 0), #[]⟩) ::
(nat_lit 338, ⟨.type "code", none, (.fields #[.str "_law_own_do" 623, .str "_law_own_do" 624, .str "/claim/cut.py" 625, .int (219) 0, .int (2) 0, .int (0) 0, .int (0) 0, .int (3) 0, .ref 333, .bool true, .int (181) 0, .ref 334, .none, .ref 335, .ref 336, .ref 337, .int (632) 0, .int (219) 0, .str "/claim/cut.py" 633]), #[]⟩) ::
(nat_lit 339, ⟨.type "function", none, (.func (PySem.W.fnOf "_law_own_do" "_law_own_do" (defArgs (top 24)) (defBody (top 24)) (defScope (top 24)) (.none) (.none) (.none) (.str "law_markwords_k03_quotients" 539) none (.ref 338) (.none))), #[]⟩) ::
(nat_lit 340, ⟨.type "tuple", none, (.seq #[] 0), #[]⟩) ::
(nat_lit 342, ⟨.type "tuple", none, (.seq #[.str "own" 638, .str "deed" 639, .str "word" 640, .str "one" 641, .str "other" 642] 0), #[]⟩) ::
(nat_lit 343, ⟨.type "tuple", none, (.seq #[] 0), #[]⟩) ::
(nat_lit 345, ⟨.type "code", none, (.fields #[.str "_law_own_ask" 635, .str "_law_own_ask" 636, .str "/claim/cut.py" 637, .int (243) 0, .int (2) 0, .int (0) 0, .int (0) 0, .int (3) 0, .ref 340, .bool true, .int (181) 0, .ref 341, .none, .ref 342, .ref 343, .ref 344, .int (643) 0, .int (243) 0, .str "/claim/cut.py" 644]), #[]⟩) ::
(nat_lit 346, ⟨.type "function", none, (.func (PySem.W.fnOf "_law_own_ask" "_law_own_ask" (defArgs (top 25)) (defBody (top 25)) (defScope (top 25)) (.none) (.none) (.none) (.str "law_markwords_k03_quotients" 539) none (.ref 345) (.none))), #[]⟩) ::
(nat_lit 347, ⟨.type "tuple", none, (.seq #[] 0), #[]⟩) ::
(nat_lit 349, ⟨.type "tuple", none, (.seq #[.str "store" 649, .str "own" 650, .str "deed" 651] 0), #[]⟩) ::
(nat_lit 350, ⟨.type "tuple", none, (.seq #[] 0), #[]⟩) ::
(nat_lit 352, ⟨.type "code", none, (.fields #[.str "_law_both" 646, .str "_law_both" 647, .str "/claim/cut.py" 648, .int (256) 0, .int (3) 0, .int (0) 0, .int (0) 0, .int (3) 0, .ref 347, .bool true, .int (181) 0, .ref 348, .none, .ref 349, .ref 350, .ref 351, .int (652) 0, .int (256) 0, .str "/claim/cut.py" 653]), #[]⟩) ::
(nat_lit 353, ⟨.type "function", none, (.func (PySem.W.fnOf "_law_both" "_law_both" (defArgs (top 26)) (defBody (top 26)) (defScope (top 26)) (.none) (.none) (.none) (.str "law_markwords_k03_quotients" 539) none (.ref 352) (.none))), #[]⟩) ::
(nat_lit 354, ⟨.type "tuple", none, (.seq #[] 0), #[]⟩) ::
(nat_lit 356, ⟨.type "tuple", none, (.seq #[.str "store" 658, .str "own" 659, .str "turn" 660, .str "q" 661, .str "deed" 662] 0), #[]⟩) ::
(nat_lit 357, ⟨.type "tuple", none, (.seq #[] 0), #[]⟩) ::
(nat_lit 359, ⟨.type "code", none, (.fields #[.str "_law_all_same" 655, .str "_law_all_same" 656, .str "/claim/cut.py" 657, .int (260) 0, .int (3) 0, .int (0) 0, .int (0) 0, .int (3) 0, .ref 354, .bool true, .int (181) 0, .ref 355, .none, .ref 356, .ref 357, .ref 358, .int (663) 0, .int (260) 0, .str "/claim/cut.py" 664]), #[]⟩) ::
(nat_lit 360, ⟨.type "function", none, (.func (PySem.W.fnOf "_law_all_same" "_law_all_same" (defArgs (top 27)) (defBody (top 27)) (defScope (top 27)) (.none) (.none) (.none) (.str "law_markwords_k03_quotients" 539) none (.ref 359) (.none))), #[]⟩) ::
(nat_lit 361, ⟨.type "tuple", none, (.seq #[] 0), #[]⟩) ::
(nat_lit 363, ⟨.type "tuple", none, (.seq #[.str "a" 669, .str "b" 670, .str "steps" 671, .str "left" 672, .str "found" 673, .str "step" 674] 0), #[]⟩) ::
(nat_lit 364, ⟨.type "tuple", none, (.seq #[] 0), #[]⟩) ::
(nat_lit 366, ⟨.type "code", none, (.fields #[.str "_law_floor" 666, .str "_law_floor" 667, .str "/claim/cut.py" 668, .int (266) 0, .int (2) 0, .int (0) 0, .int (0) 0, .int (3) 0, .ref 361, .bool true, .int (181) 0, .ref 362, .none, .ref 363, .ref 364, .ref 365, .int (675) 0, .int (266) 0, .str "/claim/cut.py" 676]), #[]⟩) ::
(nat_lit 367, ⟨.type "function", none, (.func (PySem.W.fnOf "_law_floor" "_law_floor" (defArgs (top 28)) (defBody (top 28)) (defScope (top 28)) (.none) (.none) (.none) (.str "law_markwords_k03_quotients" 539) none (.ref 366) (.none))), #[]⟩) ::
(nat_lit 368, ⟨.type "tuple", none, (.seq #[] 0), #[]⟩) ::
(nat_lit 370, ⟨.type "tuple", none, (.seq #[.str "bag" 681, .str "a" 682, .str "b" 683, .str "way" 684] 0), #[]⟩) ::
(nat_lit 371, ⟨.type "tuple", none, (.seq #[] 0), #[]⟩) ::
(nat_lit 373, ⟨.type "code", none, (.fields #[.str "_law_two" 678, .str "_law_two" 679, .str "/claim/cut.py" 680, .int (278) 0, .int (1) 0, .int (0) 0, .int (0) 0, .int (3) 0, .ref 368, .bool true, .int (181) 0, .ref 369, .none, .ref 370, .ref 371, .ref 372, .int (685) 0, .int (278) 0, .str "/claim/cut.py" 686]), #[]⟩) ::
(nat_lit 374, ⟨.type "function", none, (.func (PySem.W.fnOf "_law_two" "_law_two" (defArgs (top 29)) (defBody (top 29)) (defScope (top 29)) (.none) (.none) (.none) (.str "law_markwords_k03_quotients" 539) none (.ref 373) (.none))), #[]⟩) ::
(nat_lit 375, ⟨.type "tuple", none, (.seq #[] 0), #[]⟩) ::
(nat_lit 377, ⟨.type "tuple", none, (.seq #[.str "script" 691, .str "bag" 692, .str "k" 693, .str "a" 694, .str "b" 695, .str "r" 696, .str "q" 697, .str "p" 698, .str "store" 699, .str "own" 700, .str "deed" 701, .str "word" 702, .str "due" 703] 0), #[]⟩) ::
(nat_lit 378, ⟨.type "tuple", none, (.seq #[] 0), #[]⟩) ::
(nat_lit 380, ⟨.type "code", none, (.fields #[.str "law" 688, .str "law" 689, .str "/claim/cut.py" 690, .int (287) 0, .int (1) 0, .int (0) 0, .int (0) 0, .int (3) 0, .ref 375, .bool true, .int (181) 0, .ref 376, .none, .ref 377, .ref 378, .ref 379, .int (704) 0, .int (287) 0, .str "/claim/cut.py" 705]), #[]⟩) ::
(nat_lit 381, ⟨.type "function", none, (.func (PySem.W.fnOf "law" "law" (defArgs (top 30)) (defBody (top 30)) (defScope (top 30)) (.none) (.none) (.none) (.str "law_markwords_k03_quotients" 539) none (.ref 380) (.none))), #[]⟩) ::
[]
def KA : List Addr := [2, 3, 15, 22, 23, 24, 25, 28, 35, 37, 38, 40, 41, 42, 43, 44, 47, 54, 55, 56, 59, 66, 67, 68, 71, 73, 74, 76, 77, 78, 80, 81, 83, 84, 85, 87, 88, 90, 91, 99, 101, 102, 104, 105, 106, 107, 108, 109, 110, 113, 115, 116, 118, 119, 127, 129, 130, 132, 133, 134, 136, 137, 139, 140, 141, 143, 144, 146, 147, 148, 150, 151, 153, 154, 155, 157, 158, 160, 161, 162, 164, 165, 167, 168, 169, 171, 172, 174, 175, 176, 178, 179, 181, 182, 183, 185, 186, 188, 189, 190, 192, 193, 195, 196, 197, 199, 200, 202, 203, 204, 206, 207, 209, 210, 211, 213, 214, 216, 217, 218, 220, 221, 223, 224, 225, 227, 228, 230, 231, 232, 234, 235, 237, 238, 239, 241, 242, 244, 245, 246, 248, 249, 251, 252, 253, 255, 256, 258, 259, 260, 262, 263, 265, 266, 267, 268, 269, 270, 271, 274, 277, 278, 279, 281, 282, 284, 285, 286, 288, 289, 291, 292, 293, 295, 296, 298, 299, 300, 302, 303, 305, 306, 307, 310, 311, 312, 314, 315, 317, 318, 319, 321, 322, 324, 325, 326, 328, 329, 331, 332, 333, 335, 336, 338, 339, 340, 342, 343, 345, 346, 347, 349, 350, 352, 353, 354, 356, 357, 359, 360, 361, 363, 364, 366, 367, 368, 370, 371, 373, 374, 375, 377, 378, 380, 381]
theorem K_as : ∀ P, KA = (K P).map (·.1) := fun _ => by kernel_rfl
noncomputable def vw : Program := PySem.W.view PySem.Challenge.pw_markwords_k03_quotients [1, 2, 3, 4, 6, 7, 8, 10, 11, 12, 13, 15, 16, 17, 18, 19, 20, 21, 22, 23, 24, 25, 26, 27, 28, 29, 30]
def ls : List Str := []
def lv : List (Str × WData) := []
noncomputable def Xt (s : Shared) : Bool := xlAt vw lv s && recOk (RowW.records (OpenRow.toRowW (OpenLaw.row PySem.Challenge.rw_markwords_k03_quotients))) s
noncomputable def Lf (w : World) (os : OsState) := (Hd.topT treeTable PySem.Challenge.pw_markwords_k03_quotients w 11 (some (.ref 6)) 5356 (Hd.S0 w os) (topStub PySem.Challenge.pw_markwords_k03_quotients)).map (fun s => Hd.Look PySem.Challenge.pw_markwords_k03_quotients vw ls Xt (kHook K KA K_as).obs w s.abs)
noncomputable def Rt (w : World) (_ : OsState) := some (true, openGood vw ls, (kHook K KA K_as).val w)
theorem Lf_is : Lf = Lf := rfl
theorem Rt_is : Rt = Rt := rfl
name_quick MwLq for Lf by Lf_is
name_quick MwRq for Rt by Rt_is
theorem run (w : World) : (fun os => Lf (w) os) = fun os => Rt (w) os :=
  (congrFun PySem.W.Fast.MwLq_eq (w)).trans (Eq.trans (by kernel_rfl : PySem.W.Fast.MwLq (w) = PySem.W.Fast.MwRq (w)) (congrFun PySem.W.Fast.MwRq_eq (w)).symm)
theorem hl : LeftO PySem.Challenge.pw_markwords_k03_quotients vw ls Xt (kHook K KA K_as).obs (kHook K KA K_as).val 5356 :=
  Hd.left_of (M := 5356) (by kernel_rfl) (by decide) (fun _ => by kernel_rfl) (by decide) (fun w os => congrFun (run w) os) Hd.boot_main
end Mw
open PySem PySem.W PyProof.Rows
set_option maxRecDepth 100000 in
set_option maxHeartbeats 0 in
theorem PySem.Challenge.cw_markwords_k03_quotients_holds : PySem.Challenge.rw_markwords_k03_quotients.Holds := by
  w_on; o_law
  refine Hd.close (q := Mw.vw) (loose := Mw.ls) (lv := Mw.lv) (H := kHook Mw.K Mw.KA Mw.K_as) (N := 5356) Mw.hl (by rfl) (by rfl) (by rfl) (by rfl) (by assumption) (by decide +kernel) ⟨rfl, rfl, rfl, rfl, rfl, by decide +kernel⟩ ?hw ?hc
  case hw => w_witness2
  k_fill
  refine Mw.walk (l := PySem.Challenge.rw_markwords_k03_quotients) rfl rfl (fun w h Y => PySem.W.kIn_of Y) ?F
  case F =>
    intro w mg fa h KX G hmg
    refine' Mw.all_mk KX G hmg ?ca1 ?cb1 ?cc1 ?cd1 ?ce1 ?cf1 ?cg1 ?ch1_1 ?xaNought ?xaWrongKind ?xoNought ?ENought_WrongKind ?ENought_Nought ?a1 ?l1 ?c1 ?k1 ?a2 ?l2 ?c2 ?k2 ?a3 ?l3 ?c3 ?k3 ?a4 ?l4 ?c4 ?k4 ?a5 ?n5 ?l5 ?c5 ?k5 ?a6 ?n6 ?l6 ?c6 ?k6 ?a7 ?n7 ?l7 ?c7 ?k7 ?a8 ?n8 ?l8 ?c8 ?k8 ?a9 ?n9 ?l9 ?c9 ?k9 ?a10 ?l10 ?c10 ?k10 ?a11 ?l11 ?c11 ?k11 ?a12 ?n12 ?l12 ?c12 ?k12 ?a13 ?n13 ?l13 ?c13 ?k13 ?a14 ?n14 ?k14 ?a15 ?n15 ?k15 ?a16 ?n16 ?k16 ?a17 ?n17 ?k17 ?a18 ?n18 ?k18 ?a19 ?n19 ?k19 ?a20 ?n20 ?k20 ?a21 ?n21 ?k21 ?a22 ?n22 ?k22 ?a23 ?n23 ?k23 ?a24 ?n24 ?k24 ?a25 ?n25 ?k25 ?a26 ?l26 ?c26 ?k26 ?a27 ?l27 ?c27 ?k27 ?a28 ?l28 ?c28 ?k28 ?a29 ?k29 ?a30 ?l30 ?c30 ?k30 ?a31 ?l31 ?c31 ?k31 ?a32 ?l32 ?c32 ?k32 ?a33 ?l33 ?c33 ?k33 ?a34 ?l34 ?c34 ?k34 ?a35 ?l35 ?c35 ?k35 ?a36 ?l36 ?c36 ?k36 ?a37 ?l37 ?c37 ?k37 ?z1 ?z2 ?z3 ?z4 ?z5 ?z6 ?z7 ?z8 ?z9 ?z10 ?z11 ?z12 ?z13 ?z14 ?z15 ?z16 ?z17 ?z18 ?g1
    (case ca1 => k_is)
    (case cb1 => k_is)
    (case cc1 => k_is)
    (case cd1 => k_is)
    (case ce1 => k_is)
    (case cf1 => k_is)
    (case cg1 => k_is)
    (case ch1_1 => k_is)
    (case xaNought => k_is)
    (case xaWrongKind => k_is)
    (case xoNought => kernel_rfl)
    (case ENought_WrongKind => kernel_rfl)
    (case ENought_Nought => kernel_rfl)
    (case a1 => k_is)
    (case l1 => k_is)
    (case c1 => k_is)
    (case k1 => k_is)
    (case a2 => k_is)
    (case l2 => k_is)
    (case c2 => k_is)
    (case k2 => k_is)
    (case a3 => k_is)
    (case l3 => k_is)
    (case c3 => k_is)
    (case k3 => k_is)
    (case a4 => k_is)
    (case l4 => k_is)
    (case c4 => k_is)
    (case k4 => k_is)
    (case a5 => k_is)
    (case n5 => k_is)
    (case l5 => k_is)
    (case c5 => k_is)
    (case k5 => k_is)
    (case a6 => k_is)
    (case n6 => k_is)
    (case l6 => k_is)
    (case c6 => k_is)
    (case k6 => k_is)
    (case a7 => k_is)
    (case n7 => k_is)
    (case l7 => k_is)
    (case c7 => k_is)
    (case k7 => k_is)
    (case a8 => k_is)
    (case n8 => k_is)
    (case l8 => k_is)
    (case c8 => k_is)
    (case k8 => k_is)
    (case a9 => k_is)
    (case n9 => k_is)
    (case l9 => k_is)
    (case c9 => k_is)
    (case k9 => k_is)
    (case a10 => k_is)
    (case l10 => k_is)
    (case c10 => k_is)
    (case k10 => k_is)
    (case a11 => k_is)
    (case l11 => k_is)
    (case c11 => k_is)
    (case k11 => k_is)
    (case a12 => k_is)
    (case n12 => k_is)
    (case l12 => k_is)
    (case c12 => k_is)
    (case k12 => k_is)
    (case a13 => k_is)
    (case n13 => k_is)
    (case l13 => k_is)
    (case c13 => k_is)
    (case k13 => k_is)
    (case a14 => k_is)
    (case n14 => k_is)
    (case k14 => k_is)
    (case a15 => k_is)
    (case n15 => k_is)
    (case k15 => k_is)
    (case a16 => k_is)
    (case n16 => k_is)
    (case k16 => k_is)
    (case a17 => k_is)
    (case n17 => k_is)
    (case k17 => k_is)
    (case a18 => k_is)
    (case n18 => k_is)
    (case k18 => k_is)
    (case a19 => k_is)
    (case n19 => k_is)
    (case k19 => k_is)
    (case a20 => k_is)
    (case n20 => k_is)
    (case k20 => k_is)
    (case a21 => k_is)
    (case n21 => k_is)
    (case k21 => k_is)
    (case a22 => k_is)
    (case n22 => k_is)
    (case k22 => k_is)
    (case a23 => k_is)
    (case n23 => k_is)
    (case k23 => k_is)
    (case a24 => k_is)
    (case n24 => k_is)
    (case k24 => k_is)
    (case a25 => k_is)
    (case n25 => k_is)
    (case k25 => k_is)
    (case a26 => k_is)
    (case l26 => k_is)
    (case c26 => k_is)
    (case k26 => k_is)
    (case a27 => k_is)
    (case l27 => k_is)
    (case c27 => k_is)
    (case k27 => k_is)
    (case a28 => k_is)
    (case l28 => k_is)
    (case c28 => k_is)
    (case k28 => k_is)
    (case a29 => k_is)
    (case k29 => k_is)
    (case a30 => k_is)
    (case l30 => k_is)
    (case c30 => k_is)
    (case k30 => k_is)
    (case a31 => k_is)
    (case l31 => k_is)
    (case c31 => k_is)
    (case k31 => k_is)
    (case a32 => k_is)
    (case l32 => k_is)
    (case c32 => k_is)
    (case k32 => k_is)
    (case a33 => k_is)
    (case l33 => k_is)
    (case c33 => k_is)
    (case k33 => k_is)
    (case a34 => k_is)
    (case l34 => k_is)
    (case c34 => k_is)
    (case k34 => k_is)
    (case a35 => k_is)
    (case l35 => k_is)
    (case c35 => k_is)
    (case k35 => k_is)
    (case a36 => k_is)
    (case l36 => k_is)
    (case c36 => k_is)
    (case k36 => k_is)
    (case a37 => k_is)
    (case l37 => k_is)
    (case c37 => k_is)
    (case k37 => k_is)
    (case z1 => k_is)
    (case z2 => k_is)
    (case z3 => k_is)
    (case z4 => k_is)
    (case z5 => k_is)
    (case z6 => k_is)
    (case z7 => k_is)
    (case z8 => k_is)
    (case z9 => k_is)
    (case z10 => k_is)
    (case z11 => k_is)
    (case z12 => k_is)
    (case z13 => k_is)
    (case z14 => k_is)
    (case z15 => k_is)
    (case z16 => k_is)
    (case z17 => k_is)
    (case z18 => k_is)
    (case g1 => k_is)
