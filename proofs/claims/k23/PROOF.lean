import PyProof.Rows.All
import Wide.All
import OpenK.AllK
import Wide.FinOn
import Lean
import PyProof.EqAt
import PyProof.EqKinds
import PyProof.TupleCall
import PyProof.NeKinds
import PyProof.RulesTry
import PySem.Challenge.RW_markwords_k23_whole_one_way_alone
set_option Elab.async false
set_option linter.all false
set_option maxRecDepth 100000
/-! THE HAND LAYER, for ints, bools, texts, own classes, LISTS and tuples (index, slices, in, append, pop ..), calls, loops. Paste it whole ahead of your own text; what your proof does not reach may be deleted. -/
namespace L2
open PySem PySem.Spec PyProof.Rows

/-- a key: an int or a str -/
abbrev Key := Sum Int Str
def keyIs : Key → Value → Bool
  | .inl k, v => Value.isInt k v
  | .inr x, v => Value.isStrOf x v
def keyH (w : World) : Key → Int
  | .inl k => hashInt k
  | .inr x => hashStr w x
theorem keyIs_shape : ∀ {k : Key} {v : Value}, keyIs k v = true → (∃ i t, k = Sum.inl i ∧ v = Value.int i t) ∨ (∃ x t, k = Sum.inr x ∧ v = Value.str x t)
  | .inl i, v, h => by
    obtain ⟨t, e⟩ := Value.isInt_shape (k := i) (v := v) h
    exact .inl ⟨i, t, rfl, e⟩
  | .inr x, v, h => by
    obtain ⟨t, e⟩ := Value.isStrOf_shape (x := x) (v := v) h
    exact .inr ⟨x, t, rfl, e⟩
theorem keyIs_int (i : Int) (t : Tok) : keyIs (.inl i) (.int i t) = true := by simp [keyIs, Value.isInt]
theorem keyIs_str (x : Str) (t : Tok) : keyIs (.inr x) (.str x t) = true := by simp [keyIs, Value.isStrOf]
theorem key_ll (a b : Int) : decide ((Sum.inl a : Key) = Sum.inl b) = (a == b) := by
  by_cases e : a = b
  · subst e; simp
  · have h : ¬ (Sum.inl a : Key) = Sum.inl b := fun q => e (Sum.inl.inj q)
    rw [decide_eq_false h]
    exact (beq_eq_false_iff_ne.mpr e).symm
theorem key_rr (a b : Str) : decide ((Sum.inr a : Key) = Sum.inr b) = decide (a = b) := by
  by_cases e : a = b
  · subst e; simp
  · have h : ¬ (Sum.inr a : Key) = Sum.inr b := fun q => e (Sum.inr.inj q)
    rw [decide_eq_false h, decide_eq_false e]
theorem key_lr (a : Int) (b : Str) : decide ((Sum.inl a : Key) = Sum.inr b) = false := decide_eq_false (fun q => nomatch q)
theorem key_rl (a : Str) (b : Int) : decide ((Sum.inr a : Key) = Sum.inl b) = false := decide_eq_false (fun q => nomatch q)

def mixKind (prog : Program) (w : World) : PySem.KeyKind prog w Key where
  is := keyIs
  hash := keyH w
  inj := fun v a b ha hb => by
    rcases keyIs_shape ha with ⟨i, t, rfl, rfl⟩ | ⟨x, t, rfl, rfl⟩
    · rcases keyIs_shape hb with ⟨j, u, rfl, e⟩ | ⟨y, u, rfl, e⟩
      · injection e with e1 _; rw [e1]
      · exact nomatch e
    · rcases keyIs_shape hb with ⟨j, u, rfl, e⟩ | ⟨y, u, rfl, e⟩
      · exact nomatch e
      · injection e with e1 _; rw [e1]
  byValue := fun k v h => by
    rcases keyIs_shape h with ⟨i, t, rfl, rfl⟩ | ⟨x, t, rfl, rfl⟩ <;> rfl
  pyHash := fun hv h => by
    rcases keyIs_shape hv with ⟨i, t, rfl, rfl⟩ | ⟨x, t, rfl, rfl⟩
    · exact wpAny_pyHash_int h
    · exact wpAny_pyHash_str h
  eqBool := fun hu hv h => by
    rcases keyIs_shape hu with ⟨i, t, rfl, rfl⟩ | ⟨x, t, rfl, rfl⟩
    · rcases keyIs_shape hv with ⟨j, u, rfl, rfl⟩ | ⟨y, u, rfl, rfl⟩
      · rw [key_ll] at h; exact wpAny_eqBool_int h
      · rw [key_lr] at h; exact SeqAt.EqAt.int_str i t y u _ _ _ _ h
    · rcases keyIs_shape hv with ⟨j, u, rfl, rfl⟩ | ⟨y, u, rfl, rfl⟩
      · rw [key_rl] at h; exact SeqAt.EqAt.str_int x t j u _ _ _ _ h
      · rw [key_rr] at h; exact wpAny_eqBool_str h
  «strs» := fun k x t v h => by
    rcases keyIs_shape h with ⟨i, u, rfl, e⟩ | ⟨y, u, rfl, e⟩
    · exact nomatch e
    · injection e with e1 _
      subst e1
      cases v <;> rfl

theorem mixKind_int (prog : Program) (w : World) (i : Int) (t : Tok) : (mixKind prog w).is (.inl i) (.int i t) = true := keyIs_int i t
theorem mixKind_str (prog : Program) (w : World) (x : Str) (t : Tok) : (mixKind prog w).is (.inr x) (.str x t) = true := keyIs_str x t
end L2

namespace L2
open PySem PySem.Spec PyProof.Rows

/-- a value, without the heap -/
inductive V where
  | non | bl (b : Bool) | int (i : Int) | str (x : Str) | byt (b : Array UInt8) | flt (b : UInt64) | ref (a : Addr) | ty (n : String)
  deriving DecidableEq

def RelV : V → Value → Prop
  | .non, u => u = Value.none
  | .bl b, u => u = Value.bool b
  | .int i, u => ∃ t, u = Value.int i t
  | .str x, u => ∃ t, u = Value.str x t
  | .byt b, u => ∃ t, u = Value.bytes b t
  | .flt b, u => ∃ t, u = Value.float b t
  | .ref a, u => u = Value.ref a
  | .ty n, u => u = Value.type n

abbrev Vals : List V → List Value → Prop := Paired RelV
theorem Vals.length {xs : List V} {us : List Value} (r : Vals xs us) : xs.length = us.length := Paired.length r
theorem Vals.get : ∀ {xs : List V} {us : List Value} {i : Nat} {x : V}, Vals xs us → xs[i]? = some x → ∃ u, us[i]? = some u ∧ RelV x u
  | _, _, _, _, .nil, e => by simp at e
  | _, _, 0, _, .cons r _, e => by simp at e; subst e; exact ⟨_, rfl, r⟩
  | _, _, i + 1, x, .cons _ t, e => by
    obtain ⟨u, h1, h2⟩ := Vals.get (i := i) (x := x) t (by simpa using e)
    exact ⟨u, by simpa using h1, h2⟩
theorem Vals.set {x : V} {u : Value} (r : RelV x u) : ∀ {xs : List V} {us : List Value} (i : Nat), Vals xs us → Vals (xs.set i x) (us.set i u)
  | _, _, _, .nil => .nil
  | _, _, 0, .cons _ t => .cons r t
  | _, _, i + 1, .cons q t => .cons q (Vals.set r i t)
theorem Vals.append : ∀ {xs ys : List V} {us ws : List Value}, Vals xs us → Vals ys ws → Vals (xs ++ ys) (us ++ ws)
  | _, _, _, _, .nil, s => s
  | _, _, _, _, .cons r t, s => .cons r (Vals.append t s)
theorem Vals.take : ∀ {xs : List V} {us : List Value} (n : Nat), Vals xs us → Vals (xs.take n) (us.take n)
  | _, _, 0, _ => .nil
  | _, _, _ + 1, .nil => .nil
  | _, _, n + 1, .cons r t => .cons r (Vals.take n t)
theorem Vals.drop : ∀ {xs : List V} {us : List Value} (n : Nat), Vals xs us → Vals (xs.drop n) (us.drop n)
  | _, _, 0, r => r
  | _, _, _ + 1, .nil => .nil
  | _, _, n + 1, .cons _ t => Vals.drop n t
def RelO : Option V → Option Value → Prop
  | some v, some u => RelV v u
  | none, none => True
  | _, _ => False
def KV {κ : Type} : List (κ × V) → List (κ × Value) → Prop := Paired fun (p : κ × V) (q : κ × Value) => p.1 = q.1 ∧ RelV p.2 q.2

/-- a key of a dict (00_mix): an int or a text -/
def kV : Key → V
  | .inl i => .int i
  | .inr x => .str x

/-- what stands at a tracked address -/
inductive HO where
  /-- a list -/
  | lst (xs : List V)
  /-- a tuple (never changes) -/
  | tup (xs : List V)
  /-- a dict whose keys are ints and texts; one whose keys are tuples of ints and texts (the empty one is both) -/
  | dK (kvs : List (Key × V)) | dT (kvs : List (List Key × V))
  /-- a set of ints: its members, its size -/
  | set (S : Int → Bool) (n : Nat)
  /-- an instance of the class at C, its dict at dx, its attributes -/
  | ins (C dx : Addr) (fs : List (Str × V))
  /-- the dict of the instance at x -/
  | own (x : Addr)
  /-- the dict of an exception -/
  | xd (fs : List (Str × V))
  /-- a bound method, f of x -/
  | met (f x : Addr)
  /-- a range object lo, lo + 1, .. below hi -/
  | rng (lo hi : Int)
  /-- a thing that is known to the object (the script; a dict while a loop walks it): read, never written while it is so -/
  | frz (o : Obj) (u : HO)
  /-- a code object's table -/
  | tbl (ps : Array Value)
  /-- any other thing, by what is true of its one object (a def of one's own: SetO a S n := HO.ext fun h => ..) -/
  | ext (φ : Heap → Prop)

abbrev Hp := Addr → Option HO
def upd (H : Hp) (a : Addr) (o : HO) : Hp := fun b => if b = a then some o else H b
theorem upd_same {H : Hp} {a : Addr} {o : HO} : upd H a o a = some o := by unfold upd; rw [if_pos rfl]
theorem upd_ne {H : Hp} {a b : Addr} {o : HO} (h : b ≠ a) : upd H a o b = H b := by unfold upd; rw [if_neg h]
/-- two objects of different content stand apart -/
theorem ne_of {H : Hp} {a b : Addr} {o u : HO} (h : H a = some o) (h' : H b = some u) (d : o ≠ u) : a ≠ b := by
  intro e; subst e; rw [h] at h'; exact d (Option.some.inj h')
theorem ne_of_none {H : Hp} {a b : Addr} {o : HO} (h : H a = some o) (h' : H b = none) : a ≠ b := by
  intro e; subst e; rw [h] at h'; cases h'

section
variable (P : Program) (w : World)
def ObjOk (H : Hp) (h : Heap) (a : Addr) : HO → Prop
  | .lst xs => xs.length ≤ sizeLine ∧ ∃ (its : List Value) (n : Nat), Vals xs its ∧ h.get? a = some { cls := .type "list", data := .seq its.toArray n }
  | .tup xs => xs.length ≤ sizeLine ∧ ∃ its : List Value, Vals xs its ∧ IsTup h a its.toArray
  | .dK kvs => kvs.length ≤ sizeLine ∧ (a == sysModules) = false ∧ ∃ vs, KV kvs vs ∧ h.DictOf (mixKind P w) a vs
  | .dT kvs => kvs.length ≤ sizeLine ∧ (a == sysModules) = false ∧ ∃ xs : List (List Key × Addr × Value),
      Paired (fun (p : List Key × V) (q : List Key × Addr × Value) => p.1 = q.1 ∧ H q.2.1 = some (.tup (p.1.map kV)) ∧ RelV p.2 q.2.2) kvs xs ∧
      ∃ o es ep, h.get? a = some o ∧ o.ExactDict ∧ o.data = .dict es ep ∧ es.toList = xs.map (entryOfKey (tupleKind (mixKind P w))) ∧ (xs.map (·.1)).Nodup
  | .set S n => h.SetOf (intKind P w) a S n
  | .ins C dx fs => H dx = some (.own a) ∧ fs.length ≤ 1000 ∧ dx ≠ a ∧ h.get? a = some (PySem.W.instObj C dx) ∧
      ∃ mA, h.Ns1 dx mA ∧ (∀ f, RelO (fs.lookup f) (mA f)) ∧ PySem.Within mA (fs.map (·.1))
  | .own _ => ∃ o, h.get? a = some o
  | .xd fs => ∃ mA, h.Ns1 a mA ∧ ∀ f, RelO (fs.lookup f) (mA f)
  | .rng lo hi => ∃ t u v, h.get? a = some { cls := .type "range", data := .fields #[.int lo t, .int hi u, .int 1 v] }
  | .frz o u => h.get? a = some o ∧ ObjOk H h a u
  | .tbl ps => h.get? a = some { cls := .none, data := .fields ps }
  | .met f x => h.get? a = some (PySem.W.methodObj (.ref f) (.ref x))
  | .ext φ => φ h ∧ (∃ o, h.get? a = some o) ∧ ∀ h1 h2 : Heap, φ h1 → (∀ o, h1.get? a = some o → h2.get? a = some o) → φ h2
/-- the abstract heap is held -/
def HOk (H : Hp) (h : Heap) : Prop := ∀ a o, H a = some o → ObjOk P w H h a o
end

section
variable {P : Program} {w : World} {H H' : Hp} {h h' : Heap} {a : Addr} {o : HO}
theorem ObjOk.lt (x : ObjOk P w H h a o) : a < h.objs.size := by
  cases o with
  | lst xs => obtain ⟨_, _, _, _, e⟩ := x; exact Heap.lt_size e
  | tup xs => obtain ⟨_, _, _, p⟩ := x; exact p.lt
  | dK kvs => obtain ⟨_, _, _, _, o, _, _, e, _⟩ := x; exact Heap.lt_size e
  | dT kvs => obtain ⟨_, _, _, _, o, _, _, e, _⟩ := x; exact Heap.lt_size e
  | set S n => obtain ⟨o, _, _, _, e, _⟩ := x; exact Heap.lt_size e
  | ins C dx fs => obtain ⟨_, _, _, e, _⟩ := x; exact Heap.lt_size e
  | own y => obtain ⟨_, e⟩ := x; exact Heap.lt_size e
  | xd fs => obtain ⟨_, ⟨_, _, _, e, _⟩, _⟩ := x; exact Heap.lt_size e
  | rng lo hi => obtain ⟨_, _, _, e⟩ := x; exact Heap.lt_size e
  | frz ob u => obtain ⟨e, _⟩ := x; exact Heap.lt_size e
  | tbl ps => exact Heap.lt_size (show h.get? a = some _ from x)
  | met f y => exact Heap.lt_size (show h.get? a = some _ from x)
  | ext φ => obtain ⟨_, ⟨_, e⟩, _⟩ := x; exact Heap.lt_size e
theorem Paired.mapP {α β : Type} {F G : α → β → Prop} : ∀ {l₁ : List α} {l₂ : List β}, Paired F l₁ l₂ → (∀ a b, F a b → G a b) → Paired G l₁ l₂
  | _, _, .nil, _ => .nil
  | _, _, .cons r t, f => .cons (f _ _ r) (Paired.mapP t f)
/-- what an object's description leans on: its own object, its own dict, the tuples -/
theorem ObjOk.stay (x : ObjOk P w H h a o) (k : ∀ b u, (b = a ∨ H b = some (.own a)) → h.get? b = some u → h'.get? b = some u)
    (ho : ∀ b, H b = some (.own a) → H' b = some (.own a)) (ht : ∀ b xs, H b = some (.tup xs) → H' b = some (.tup xs)) : ObjOk P w H' h' a o := by
  induction o with
  | lst xs => obtain ⟨z, its, n, r, e⟩ := x; exact ⟨z, its, n, r, k _ _ (.inl rfl) e⟩
  | tup xs => obtain ⟨z, its, r, ob, e, c⟩ := x; exact ⟨z, its, r, ob, k _ _ (.inl rfl) e, c⟩
  | dK kvs => obtain ⟨z, y, vs, r, ob, es, ep, e, c⟩ := x; exact ⟨z, y, vs, r, ob, es, ep, k _ _ (.inl rfl) e, c⟩
  | dT kvs =>
    obtain ⟨z, y, xs, r, ob, es, ep, e, c⟩ := x
    exact ⟨z, y, xs, Paired.mapP r fun p q z => ⟨z.1, ht _ _ z.2.1, z.2.2⟩, ob, es, ep, k _ _ (.inl rfl) e, c⟩
  | set S n => obtain ⟨ob, es, ep, t, e, c⟩ := x; exact ⟨ob, es, ep, t, k _ _ (.inl rfl) e, c⟩
  | ins C dx fs =>
    obtain ⟨d, z, ne, e, mA, ⟨od, es, ep, e2, c⟩, r⟩ := x
    exact ⟨ho _ d, z, ne, k _ _ (.inl rfl) e, mA, ⟨od, es, ep, k _ _ (.inr d) e2, c⟩, r⟩
  | own y => obtain ⟨ob, e⟩ := x; exact ⟨ob, k _ _ (.inl rfl) e⟩
  | xd fs => obtain ⟨mA, ⟨od, es, ep, e, c⟩, r⟩ := x; exact ⟨mA, ⟨od, es, ep, k _ _ (.inl rfl) e, c⟩, r⟩
  | rng lo hi => obtain ⟨t, u, v, e⟩ := x; exact ⟨t, u, v, k _ _ (.inl rfl) e⟩
  | frz ob u ih => obtain ⟨e, q⟩ := x; exact ⟨k _ _ (.inl rfl) e, ih q⟩
  | tbl ps =>
    have e : h.get? a = some { cls := .none, data := .fields ps } := x
    show h'.get? a = some { cls := .none, data := .fields ps }
    exact k a _ (.inl rfl) e
  | met f y =>
    have e : h.get? a = some (PySem.W.methodObj (.ref f) (.ref y)) := x
    show h'.get? a = some (PySem.W.methodObj (.ref f) (.ref y))
    exact k a _ (.inl rfl) e
  | ext φ => obtain ⟨p, ⟨o, e⟩, st⟩ := x; exact ⟨st _ _ p fun o q => k _ _ (.inl rfl) q, ⟨o, k _ _ (.inl rfl) e⟩, st⟩
theorem HOk.lt (x : HOk P w H h) (e : H a = some o) : a < h.objs.size := (x a o e).lt
theorem HOk.fresh (x : HOk P w H h) (e : h.objs.size ≤ a) : H a = none := by
  cases q : H a with
  | none => rfl
  | some u => exact absurd (Nat.lt_of_lt_of_le (x.lt q) e) (Nat.lt_irrefl _)
/-- every object of the heap is kept -/
theorem HOk.kept (x : HOk P w H h) (k : ∀ b u, h.get? b = some u → h'.get? b = some u) : HOk P w H h' := fun a o e =>
  (x a o e).stay (fun b u _ q => k b u q) (fun _ q => q) fun _ _ q => q
/-- a new object is laid and tracked -/
theorem HOk.laid (x : HOk P w H h) (k : ∀ b u, h.get? b = some u → h'.get? b = some u) (hp : h.objs.size ≤ a) (new : ObjOk P w (upd H a o) h' a o) : HOk P w (upd H a o) h' := fun b u e => by
  have hn := x.fresh hp
  by_cases hb : b = a
  · subst hb; rw [upd_same] at e; cases e; exact new
  · rw [upd_ne hb] at e
    exact (x b u e).stay (fun c v _ q => k c v q) (fun c q => by rw [upd_ne (ne_of_none q hn)]; exact q) fun c xs q => by rw [upd_ne (ne_of_none q hn)]; exact q
end

/-- what may be read as u: it is u, or a known u -/
def Rd (H : Hp) (a : Addr) (u : HO) : Prop := H a = some u ∨ ∃ o, H a = some (.frz o u)
theorem Rd.of {H : Hp} {a : Addr} {u : HO} (h : H a = some u) : Rd H a u := .inl h
theorem Rd.ok {P : Program} {w : World} {H : Hp} {h : Heap} {a : Addr} {u : HO} (r : Rd H a u) (x : HOk P w H h) : ObjOk P w H h a u := by
  rcases r with r | ⟨o, r⟩
  · exact x a u r
  · obtain ⟨_, q⟩ := x a _ r
    exact q
/-- what may be written -/
def Mut : Option HO → Prop
  | some (.lst _) => True
  | some (.dK _) => True
  | some (.dT _) => True
  | some (.set _ _) => True
  | some (.ins _ _ _) => True
  | some (.ext _) => True
  | _ => False
section
variable {P : Program} {w : World} {H : Hp} {h h' : Heap} {x e : Addr} {o' : HO}
/-- the object at e is changed: x itself, or the dict of the instance x -/
theorem HOk.write (ok : HOk P w H h) (mu : Mut (H x)) (he : e = x ∨ H e = some (.own x)) (k : ∀ b u, b ≠ e → h.get? b = some u → h'.get? b = some u) (heo : ∃ u, h'.get? e = some u)
    (new : ObjOk P w (upd H x o') h' x o') : HOk P w (upd H x o') h' := fun b u q => by
  have nown : ∀ c y, H c = some (.own y) → c ≠ x := fun c y r z => by subst z; rw [r] at mu; exact mu
  have ntup : ∀ c xs, H c = some (.tup xs) → c ≠ x := fun c xs r z => by subst z; rw [r] at mu; exact mu
  by_cases hb : b = x
  · subst hb; rw [upd_same] at q; cases q; exact new
  · rw [upd_ne hb] at q
    by_cases hbe : b = e
    · have q' : H b = some (.own x) := by
        rcases he with z | z
        · exact absurd (hbe.trans z) hb
        · rw [hbe]; exact z
      rw [q] at q'; cases q'
      obtain ⟨v, hv⟩ := heo
      exact ⟨v, by rw [hbe]; exact hv⟩
    · refine (ok b u q).stay (fun c v hc r => k c v ?_ r) (fun c r => by rw [upd_ne (nown c b r)]; exact r) fun c xs r => by rw [upd_ne (ntup c xs r)]; exact r
      rcases hc with rfl | hc
      · exact hbe
      · rintro rfl
        rcases he with z | z
        · exact nown c b hc z
        · rw [hc] at z; cases z; exact hb rfl
end

/-! ### kept unless tracked; of the frames at fs (the callers') the slots may change (an exception that passes writes there); of the records at ex (iterators) nothing is said -/
structure Un (fs ex : List Addr) (H H' : Hp) (h h' : Heap) : Prop where
  keep : ∀ b o, h.get? b = some o → H b = none → b ∉ fs → b ∉ ex → h'.get? b = some o
  slot : ∀ b o, h.get? b = some o → H b = none → b ∈ fs → b ∉ ex → ∃ sl, h'.get? b = some { o with slots := sl }
  free : ∀ b o, h.get? b = some o → H b = none → b ∉ ex → H' b = none
  there : ∀ b o, h.get? b = some o → b ∉ ex → ∃ o', h'.get? b = some o'
  tups : ∀ b xs, H b = some (.tup xs) → H' b = some (.tup xs)
  frzs : ∀ b o u, H b = some (.frz o u) → H' b = some (.frz o u)
  tbls : ∀ b ps, H b = some (.tbl ps) → ∃ more, H' b = some (.tbl (ps ++ more))
section
variable {fs fs' ex ex' : List Addr} {H H1 H2 : Hp} {h h1 h2 h' : Heap} {a x e : Addr} {o : HO}
theorem Un.any (u : Un fs ex H H1 h h1) {b : Addr} {ob : Obj} (q : h.get? b = some ob) (n : H b = none) (hx : b ∉ ex) : ∃ sl, h1.get? b = some { ob with slots := sl } := by
  by_cases hb : b ∈ fs
  · exact u.slot b ob q n hb hx
  · exact ⟨ob.slots, u.keep b ob q n hb hx⟩
theorem Un.trans (a : Un fs ex H H1 h h1) (b : Un fs ex H1 H2 h1 h2) : Un fs ex H H2 h h2 where
  keep := fun c ob q n hc hx => b.keep c ob (a.keep c ob q n hc hx) (a.free c ob q n hx) hc hx
  slot := fun c ob q n hc hx => by
    obtain ⟨sl, e1⟩ := a.slot c ob q n hc hx
    obtain ⟨sl', e2⟩ := b.slot c _ e1 (a.free c ob q n hx) hc hx
    exact ⟨sl', e2⟩
  free := fun c ob q n hx => by
    obtain ⟨o', e1⟩ := a.there c ob q hx
    exact b.free c o' e1 (a.free c ob q n hx) hx
  there := fun c ob q hx => by
    obtain ⟨o', e1⟩ := a.there c ob q hx
    exact b.there c o' e1 hx
  tups := fun c xs q => b.tups c xs (a.tups c xs q)
  frzs := fun c ob xs q => b.frzs c ob xs (a.frzs c ob xs q)
  tbls := fun c ps q => by
    obtain ⟨m1, e1⟩ := a.tbls c ps q
    obtain ⟨m2, e2⟩ := b.tbls c _ e1
    exact ⟨m1 ++ m2, by rw [e2, Array.append_assoc]⟩
theorem Un.kept (k : ∀ b u, h.get? b = some u → h'.get? b = some u) : Un fs ex H H h h' :=
  ⟨fun b ob q _ _ _ => k b ob q, fun b ob q _ _ _ => ⟨ob.slots, k b ob q⟩, fun _ _ _ n _ => n, fun b ob q _ => ⟨ob, k b ob q⟩, fun _ _ q => q, fun _ _ _ q => q, fun _ ps q => ⟨#[], by rw [q]; simp⟩⟩
theorem Un.refl : Un fs ex H H h h := Un.kept fun _ _ q => q
theorem Un.laid (k : ∀ b u, h.get? b = some u → h'.get? b = some u) (hp : h.objs.size ≤ a) (hn : H a = none) : Un fs ex H (upd H a o) h h' where
  keep := fun b u q _ _ _ => k b u q
  slot := fun b u q _ _ _ => ⟨u.slots, k b u q⟩
  free := fun b u q n _ => by rw [upd_ne (Nat.ne_of_lt (Nat.lt_of_lt_of_le (Heap.lt_size q) hp))]; exact n
  there := fun b u q _ => ⟨u, k b u q⟩
  tups := fun b xs q => by rw [upd_ne (ne_of_none q hn)]; exact q
  frzs := fun b u xs q => by rw [upd_ne (ne_of_none q hn)]; exact q
  tbls := fun b ps q => ⟨#[], by rw [upd_ne (ne_of_none q hn), q]; simp⟩
theorem Un.write (mu : Mut (H x)) (he : e = x ∨ H e = some (.own x)) (k : ∀ b u, b ≠ e → h.get? b = some u → h'.get? b = some u) (heo : ∃ u, h'.get? e = some u) : Un fs ex H (upd H x o) h h' := by
  have hx : ∀ b, H b = none → b ≠ x := fun b n z => by subst z; rw [n] at mu; exact mu
  have hb : ∀ b, H b = none → b ≠ e := fun b n z => by
    subst z
    rcases he with r | r
    · exact hx b n r
    · rw [n] at r; cases r
  have hm : ∀ b u, H b = some u → ¬ Mut (some u) → b ≠ x := fun b u q nm z => by subst z; rw [q] at mu; exact nm mu
  refine ⟨fun b u q n _ _ => k b u (hb b n) q, fun b u q n _ _ => ⟨u.slots, k b u (hb b n) q⟩, fun b u q n _ => by rw [upd_ne (hx b n)]; exact n, fun b u q _ => ?_,
    fun b xs q => by rw [upd_ne (hm b _ q fun z => z)]; exact q, fun b u xs q => by rw [upd_ne (hm b _ q fun z => z)]; exact q, fun b ps q => ⟨#[], by rw [upd_ne (hm b _ q fun z => z), q]; simp⟩⟩
  by_cases hbe : b = e
  · subst hbe; exact heo
  · exact ⟨u, k b u hbe q⟩
theorem Un.mono (u : Un fs ex H H1 h h1) (hs : ∀ b ∈ fs, b ∈ fs') (hx : ∀ b ∈ ex, b ∈ ex') : Un fs' ex' H H1 h h1 :=
  ⟨fun b ob q n hb he => u.keep b ob q n (fun z => hb (hs b z)) fun z => he (hx b z), fun _ _ q n _ he => u.any q n fun z => he (hx _ z), fun b ob q n he => u.free b ob q n fun z => he (hx b z), fun b ob q he => u.there b ob q fun z => he (hx b z), u.tups, u.frzs, u.tbls⟩
end

/-! ### the heap without what is tracked -/
def trk (h : Heap) (H : Hp) : List Addr := (List.range h.objs.size).filter fun a => (H a).isSome
def hidT (h : Heap) (H : Hp) : Heap := PySem.W.hideAll h (trk h H)
theorem hidT_size (h : Heap) (H : Hp) : (hidT h H).objs.size = h.objs.size := PySem.W.hideAll_size _ _
theorem hidT_get {h : Heap} {H : Hp} {b : Addr} {o : Obj} (e : h.get? b = some o) (n : H b = none) : (hidT h H).get? b = some o :=
  PySem.W.hideAll_get _ e fun hm => by
    have q : (H b).isSome = true := (List.mem_filter.mp hm).2
    rw [n] at q; simp at q
theorem of_hidT {h : Heap} {H : Hp} {b : Addr} {o : Obj} (e : (hidT h H).get? b = some o) : h.get? b = some o ∧ H b = none := by
  have e' : h.get? b = some o := PySem.W.of_hideAll (trk h H) e
  refine ⟨e', ?_⟩
  cases q : H b with
  | none => rfl
  | some x =>
    have hm : b ∈ trk h H := List.mem_filter.mpr ⟨List.mem_range.mpr (Heap.lt_size e'), by simp [q]⟩
    have z : (hidT h H).get? b = none := PySem.W.hideAll_none (trk h H) hm
    rw [z] at e; cases e

/-! ### OpenK's ledger, filled with every new object but one -/
def allNews (g h : Heap) (L : Addr) : List (Addr × Obj) := (List.range h.objs.size).filterMap fun a => if a = L ∨ (g.get? a).isSome = true then none else (h.get? a).map fun o => (a, o)
def rest (g h : Heap) (L d : Addr) : List (Addr × Obj) := (allNews g h L).filter fun p => decide (p.1 ≠ d)
end L2

namespace L2
open PySem PySem.Spec PyProof.Rows

/-- the module's facts, over the base: the heap at the law's entry without what is tracked there -/
structure Mod (K : PySem.W.Frag) (mg : Str → Option Value) (base : Heap) : Prop where
  kin : K.In base
  glob : base.Ns mainGlobals mg
  blt : ∃ mb, base.Ns builtinsNs mb ∧ ∀ x : Str, x ≠ "__name__" → mb x = bootBuiltins x
  nolimit : base.NoLimit

/-- the context: a def's body (or a comprehension's block) running. base: fixed through the whole law; s₀, H₀: the entry; outer: the frames whose slots others may change (a def's callers); stack: all frames that run;
   ex: iterators that were made ahead of the entry and are walked here (a comprehension's); fn: the names whose cells were made at the entry (a def: all; a comprehension's block: its own); calm: not within an except suite; pn: pins that every state bears; xe: what is wanted of an exception that leaves the code -/
structure Cx where
  prog : Program
  w : World
  K : PySem.W.Frag
  mg : Str → Option Value
  base : Heap
  A : Around
  N : List Str
  s₀ : Shared
  H₀ : Hp
  env : Env
  outer : List Env
  stack : List Env
  ex : List Addr
  fn : Str → Bool
  calm : Bool
  pn : List (Addr × Obj)
  xe : Value → Shared → Prop
/-- the callers' frames -/
def frs (l : List Env) : List Addr := l.filterMap (·.frame)
abbrev Cx.fs (X : Cx) : List Addr := frs X.outer

def Vis (sc : Scope) (x : Str) : Prop := sc.names.lookup x = some .local ∨ sc.names.lookup x = some .cell ∨ sc.names.lookup x = some .free
def Loc (sc : Scope) (x : Str) : Prop := sc.names.lookup x = some .local ∨ sc.names.lookup x = some .cell
def Look (env : Env) (h : Heap) (m : Str → Option Value) (x : Str) (u : Value) : Prop :=
  (env.kindOf x = some .local ∧ m x = some u) ∨ ((env.kindOf x = some .cell ∨ env.kindOf x = some .free) ∧ ∃ c, env.cells.lookup x = some c ∧ h.IsCell c (some u))

structure Cx.Ok (X : Cx) : Prop where
  mod : Mod X.K X.mg X.base
  kind : X.env.scope.kind = .function
  glob : X.env.globals = mainGlobals
  blt : X.env.builtins = builtinsNs
  above : X.s₀.heap.objs.size ≤ X.env.locals
  inj : ∀ x y c, X.env.cells.lookup x = some c → X.env.cells.lookup y = some c → x = y
  has : ∀ x, (X.env.kindOf x = some .cell ∨ X.env.kindOf x = some .free) → ∃ c, X.env.cells.lookup x = some c
  cab : ∀ x c, X.fn x = true → X.env.cells.lookup x = some c → X.s₀.heap.objs.size ≤ c
  hd : X.calm = true → X.A.handled = none
  frames : X.A.frames = some X.stack
  stk : X.stack = X.outer ∨ (X.stack = X.env :: X.outer ∧ X.env.frame = some X.env.locals)
  exf : ∀ b ∈ X.ex, b ≠ X.env.locals ∧ ∀ x c, X.env.cells.lookup x = some c → c ≠ b
  bs : ∀ b o, X.base.get? b = some o → X.s₀.heap.get? b = some o ∧ X.H₀ b = none
  bsz : X.base.objs.size ≤ X.s₀.heap.objs.size
  noex : ∀ b o, X.base.get? b = some o → b ∉ X.ex
  exfs : ∀ b ∈ X.ex, b ∉ X.fs
  funs : X.s₀.heap.FunFrames X.base X.outer
  frf : ∀ b ∈ X.fs, X.H₀ b = none

structure Inv (X : Cx) (pins : List (Addr × Obj)) (σ : List (Option V)) (H : Hp) (s : Shared) : Prop where
  ok : X.Ok
  os : s.os = X.s₀.os
  bare : AllBare s.gens
  base : Un X.fs X.ex X.H₀ H X.s₀.heap s.heap
  loc : ∃ m, s.heap.Ns X.env.locals m ∧ ∀ (i : Nat) (x : Str) (v : V), X.N[i]? = some x → σ[i]? = some (some v) → Vis X.env.scope x → ∃ u, RelV v u ∧ Look X.env s.heap m x u
  cell : ∀ x c, X.env.cells.lookup x = some c → ∃ v, s.heap.IsCell c v
  free : H X.env.locals = none
  freeC : ∀ x c, X.env.cells.lookup x = some c → H c = none
  pin : ∀ p ∈ X.pn ++ pins, s.heap.get? p.1 = some p.2 ∧ H p.1 = none ∧ p.1 ≠ X.env.locals ∧ p.1 ∉ X.fs ∧ ∀ v, p.2.data ≠ .cell v
  hok : HOk X.prog X.w H s.heap
  len : σ.length = X.N.length

section
variable {X : Cx} {pins : List (Addr × Obj)} {σ : List (Option V)} {H H' : Hp} {s : Shared} {h' : Heap}

theorem Cx.Ok.nofr (ok : X.Ok) {b : Addr} {o : Obj} (e : X.base.get? b = some o) : b ∉ X.fs := fun hb => by
  have := (ok.funs.mem hb).1
  rw [e] at this; cases this
theorem Inv.bs (I : Inv X pins σ H s) : ∀ b o, X.base.get? b = some o → s.heap.get? b = some o ∧ H b = none := fun b o e =>
  ⟨I.base.keep b o (I.ok.bs b o e).1 (I.ok.bs b o e).2 (I.ok.nofr e) (I.ok.noex b o e), I.base.free b o (I.ok.bs b o e).1 (I.ok.bs b o e).2 (I.ok.noex b o e)⟩
theorem Inv.bk (I : Inv X pins σ H s) : ∀ b o, X.base.get? b = some o → s.heap.get? b = some o := fun b o e => (I.bs b o e).1
theorem Inv.mod (I : Inv X pins σ H s) : Mod X.K X.mg X.base := I.ok.mod
theorem Inv.kIn (I : Inv X pins σ H s) : X.K.In s.heap := I.ok.mod.kin.keeps I.bk
theorem Inv.nolimit (I : Inv X pins σ H s) : s.heap.NoLimit := I.ok.mod.nolimit.keeps I.bk
/-- the frame over the base: for OpenK's rules (K.In X.base is I.mod.kin) -/
theorem Inv.fr (I : Inv X pins σ H s) : ∃ m, Fr X.base X.env.locals s.heap m :=
  let ⟨m, hn, _⟩ := I.loc
  ⟨m, hn, I.bk, Nat.le_trans I.ok.bsz I.ok.above⟩
theorem Inv.lt (I : Inv X pins σ H s) : X.env.locals < s.heap.objs.size := let ⟨_, hn, _⟩ := I.loc; hn.lt
theorem Inv.sz (I : Inv X pins σ H s) : X.s₀.heap.objs.size ≤ s.heap.objs.size := Nat.le_trans I.ok.above (Nat.le_of_lt I.lt)
theorem Inv.nofs (I : Inv X pins σ H s) {a : Addr} (h : s.heap.objs.size ≤ a) : a ∉ X.fs := fun hb => by
  obtain ⟨_, o, ho, _⟩ := I.ok.funs.mem hb
  exact absurd (Nat.lt_of_lt_of_le (Heap.lt_size ho) (Nat.le_trans I.sz h)) (Nat.lt_irrefl _)
theorem Inv.cne (I : Inv X pins σ H s) : ∀ x c, X.env.cells.lookup x = some c → c ≠ X.env.locals := fun x c e z => by
  obtain ⟨v, o, ho, hd⟩ := I.cell x c e
  obtain ⟨m, ⟨o', es, ep, ho', hd', _⟩, _⟩ := I.loc
  rw [z, ho'] at ho; cases ho; rw [hd'] at hd; cases hd
theorem Inv.funs (I : Inv X pins σ H s) : s.heap.FunFrames X.base X.outer := by
  have all : ∀ (l : List Env), (∀ b ∈ frs l, b ∈ X.fs) → X.s₀.heap.FunFrames X.base l → s.heap.FunFrames X.base l := by
    intro l
    induction l with
    | nil => intro _ _; trivial
    | cons env r ih =>
      intro hs hl
      obtain ⟨hk, ⟨L, o, hf, hn, ho, hd⟩, hr⟩ := hl
      have hL : L ∈ X.fs := hs L (by unfold frs; rw [List.filterMap_cons, hf]; exact List.mem_cons_self)
      obtain ⟨sl, e⟩ := I.base.slot L o ho (I.ok.frf L hL) hL fun z => I.ok.exfs L z hL
      exact ⟨hk, ⟨L, _, hf, hn, e, hd⟩, ih (fun b hb => hs b (by unfold frs; rw [List.filterMap_cons, hf]; exact List.mem_cons_of_mem _ hb)) hr⟩
  exact all X.outer (fun _ hb => hb) I.ok.funs

/-- the frames that run, for a call -/
theorem Inv.stack (I : Inv X pins σ H s) : s.heap.FunFrames X.base X.stack := by
  rcases I.ok.stk with e | ⟨e, hf⟩
  · rw [e]; exact I.funs
  · rw [e]
    obtain ⟨m, hn, _⟩ := I.loc
    refine .cons (by rw [I.ok.kind]; decide) hf hn ?_ I.funs
    exact Heap.get?_none_of_le (Nat.le_trans I.ok.bsz I.ok.above)
theorem Inv.stkSub (I : Inv X pins σ H s) : ∀ b ∈ frs X.stack, b ∈ X.env.locals :: X.fs := fun b hb => by
  rcases I.ok.stk with e | ⟨e, hf⟩
  · rw [e] at hb; exact List.mem_cons_of_mem _ hb
  · rw [e] at hb
    unfold frs at hb
    rw [List.filterMap_cons, hf] at hb
    exact hb
theorem Inv.stkFree (I : Inv X pins σ H s) : ∀ b ∈ frs X.stack, H b = none := fun b hb => by
  rcases List.mem_cons.mp (I.stkSub b hb) with e | hb
  · rw [e]; exact I.free
  · obtain ⟨_, o, ho, _⟩ := I.ok.funs.mem hb
    exact I.base.free b o ho (I.ok.frf b hb) fun z => I.ok.exfs b z hb

/-- THE STEP: the untracked objects but the frame and the records at ch are kept (the callers' frames up to slots), the frame's map is kept, the new abstract heap is held -/
theorem Inv.step {g' : Array GenState} {t' : Nat} {d' : Drawn} {ch : List Addr} (I : Inv X pins σ H s)
    (hch : ∀ b ∈ ch, (b ∈ X.ex ∨ X.s₀.heap.objs.size ≤ b) ∧ b ≠ X.env.locals ∧ (∀ x c, X.env.cells.lookup x = some c → c ≠ b) ∧ ∀ p ∈ X.pn ++ pins, p.1 ≠ b)
    (keep : ∀ b o, b ≠ X.env.locals → b ∉ X.fs → b ∉ ch → s.heap.get? b = some o → H b = none → h'.get? b = some o)
    (slot : ∀ b o, b ≠ X.env.locals → b ∈ X.fs → b ∉ ch → s.heap.get? b = some o → H b = none → ∃ sl, h'.get? b = some { o with slots := sl }) (free : ∀ b o, b ∉ ch → s.heap.get? b = some o → H b = none → H' b = none)
    (there : ∀ b o, b ∉ ch → s.heap.get? b = some o → ∃ o', h'.get? b = some o')
    (tups : ∀ b xs, H b = some (.tup xs) → H' b = some (.tup xs)) (frzs : ∀ b o u, H b = some (.frz o u) → H' b = some (.frz o u)) (tbls : ∀ b ps, H b = some (.tbl ps) → ∃ more, H' b = some (.tbl (ps ++ more)))
    (ns : ∀ m, s.heap.Ns X.env.locals m → h'.Ns X.env.locals m) (hok : HOk X.prog X.w H' h') (hg : AllBare g') :
    Inv X pins σ H' { s with heap := h', gens := g', drawn := d', toks := t' } := by
  have neL : ∀ b o, X.s₀.heap.get? b = some o → b ≠ X.env.locals := fun b o e => Nat.ne_of_lt (Nat.lt_of_lt_of_le (Heap.lt_size e) I.ok.above)
  have neC : ∀ b o, X.s₀.heap.get? b = some o → b ∉ X.ex → b ∉ ch := fun b o e hx hb => by
    rcases (hch b hb).1 with z | z
    · exact hx z
    · exact absurd (Nat.lt_of_lt_of_le (Heap.lt_size e) z) (Nat.lt_irrefl _)
  have cellK : ∀ x c, X.env.cells.lookup x = some c → ∀ v, s.heap.IsCell c v → h'.IsCell c v := fun x c e v ⟨o, ho, hd⟩ => by
    have nch : c ∉ ch := fun z => (hch c z).2.2.1 x c e rfl
    by_cases hc : c ∈ X.fs
    · obtain ⟨sl, q⟩ := slot c o (I.cne x c e) hc nch ho (I.freeC x c e)
      exact ⟨_, q, hd⟩
    · exact ⟨o, keep c o (I.cne x c e) hc nch ho (I.freeC x c e), hd⟩
  refine ⟨I.ok, I.os, hg, ⟨fun b o e n hb hx => ?_, fun b o e n hb hx => ?_, fun b o e n hx => ?_, fun b o e hx => ?_, fun b xs e => tups b xs (I.base.tups b xs e), fun b o xs e => frzs b o xs (I.base.frzs b o xs e), fun b ps e => ?_⟩, ?_, fun x c e => ?_, ?_, fun x c e => ?_, fun p hp => ?_, hok, I.len⟩
  · exact keep b o (neL b o e) hb (neC b o e hx) (I.base.keep b o e n hb hx) (I.base.free b o e n hx)
  · obtain ⟨sl, e1⟩ := I.base.slot b o e n hb hx
    obtain ⟨sl', e2⟩ := slot b _ (neL b o e) hb (neC b o e hx) e1 (I.base.free b o e n hx)
    exact ⟨sl', e2⟩
  · obtain ⟨o', e1⟩ := I.base.there b o e hx
    exact free b o' (neC b o e hx) e1 (I.base.free b o e n hx)
  · obtain ⟨o', e1⟩ := I.base.there b o e hx
    exact there b o' (neC b o e hx) e1
  · obtain ⟨m1, e1⟩ := I.base.tbls b ps e
    obtain ⟨m2, e2⟩ := tbls b _ e1
    exact ⟨m1 ++ m2, by rw [e2, Array.append_assoc]⟩
  · obtain ⟨m, hn, hl⟩ := I.loc
    refine ⟨m, ns m hn, fun i x v e1 e2 e3 => ?_⟩
    obtain ⟨u, r, l⟩ := hl i x v e1 e2 e3
    refine ⟨u, r, ?_⟩
    rcases l with l | ⟨k, c, e, z⟩
    · exact .inl l
    · exact .inr ⟨k, c, e, cellK x c e _ z⟩
  · obtain ⟨v, z⟩ := I.cell x c e
    exact ⟨v, cellK x c e v z⟩
  · obtain ⟨m, ⟨o, _, _, ho, _⟩, _⟩ := I.loc
    exact free _ o (fun z => (hch _ z).2.1 rfl) ho I.free
  · obtain ⟨v, o, ho, hd⟩ := I.cell x c e
    exact free c o (fun z => (hch c z).2.2.1 x c e rfl) ho (I.freeC x c e)
  · obtain ⟨e, n, ne, nf, d⟩ := I.pin p hp
    have nch : p.1 ∉ ch := fun z => (hch p.1 z).2.2.2 p hp rfl
    exact ⟨keep p.1 p.2 ne nf nch e n, free p.1 p.2 nch e n, ne, nf, d⟩
/-- .. where the frame's own object is kept too -/
theorem Inv.un {t' : Nat} (I : Inv X pins σ H s) (u : Un X.fs [] H H' s.heap h') (hok : HOk X.prog X.w H' h') : Inv X pins σ H' { s with heap := h', toks := t' } := by
  obtain ⟨m, ⟨o, es, ep, ho, r⟩, _⟩ := id I.loc
  obtain ⟨sl, hL⟩ := u.any ho I.free (by simp)
  exact I.step (g' := s.gens) (d' := s.drawn) (ch := []) (fun _ z => nomatch z) (fun b o _ hb _ e n => u.keep b o e n hb (by simp)) (fun b o _ hb _ e n => u.slot b o e n hb (by simp)) (fun b o _ e n => u.free b o e n (by simp)) (fun b o _ e => u.there b o e (by simp)) u.tups u.frzs u.tbls (fun m' hm => by
    obtain ⟨o', es', ep', ho', r'⟩ := hm
    rw [ho] at ho'; cases ho'
    exact ⟨_, es', ep', hL, r'⟩) hok I.bare
/-- behind a call (or a comprehension's block): the slots of this frame may have changed too, the records at ch may have turned -/
theorem Inv.call {g' : Array GenState} {t' : Nat} {d' : Drawn} {ch : List Addr} (I : Inv X pins σ H s) (u : Un (frs X.stack) ch H H' s.heap h') (hok : HOk X.prog X.w H' h') (hg : AllBare g')
    (hch : ∀ b ∈ ch, (b ∈ X.ex ∨ X.s₀.heap.objs.size ≤ b) ∧ b ≠ X.env.locals ∧ (∀ x c, X.env.cells.lookup x = some c → c ≠ b) ∧ ∀ p ∈ X.pn ++ pins, p.1 ≠ b) :
    Inv X pins σ H' { s with heap := h', gens := g', drawn := d', toks := t' } := by
  obtain ⟨m, ⟨o, es, ep, ho, r⟩, _⟩ := id I.loc
  obtain ⟨sl, hL⟩ := u.any ho I.free fun z => (hch _ z).2.1 rfl
  exact I.step (ch := ch) hch (fun b o hL hb hc e n => u.keep b o e n (fun z => (List.mem_cons.mp (I.stkSub b z)).elim hL hb) hc) (fun b o _ _ hc e n => u.any e n hc) (fun b o hc e n => u.free b o e n hc) (fun b o hc e => u.there b o e hc) u.tups u.frzs u.tbls (fun m' hm => by
    obtain ⟨o', es', ep', ho', r'⟩ := hm
    rw [ho] at ho'; cases ho'
    exact ⟨_, es', ep', hL, r'⟩) hok hg
/-- an untracked record of ours (an iterator) has turned -/
theorem Inv.turned {t' : Nat} {it : Addr} (I : Inv X pins σ H s) (k : ∀ b o, b ≠ it → s.heap.get? b = some o → h'.get? b = some o) (hn : H it = none) (hL : it ≠ X.env.locals)
    (h1 : it ∈ X.ex ∨ X.s₀.heap.objs.size ≤ it) (h2 : ∀ x c, X.env.cells.lookup x = some c → c ≠ it) (h3 : ∀ p ∈ X.pn ++ pins, p.1 ≠ it) : Inv X pins σ H { s with heap := h', toks := t' } := by
  have nit : ∀ b u, H b = some u → b ≠ it := fun b u e z => by rw [z, hn] at e; cases e
  refine I.step (g' := s.gens) (d' := s.drawn) (ch := [it]) (fun b hb => ?_) (fun b o _ _ hc e _ => k b o (fun z => hc (by simp [z])) e) (fun b o _ _ hc e _ => ⟨o.slots, k b o (fun z => hc (by simp [z])) e⟩) (fun _ _ _ _ n => n)
    (fun b o hc e => ⟨o, k b o (fun z => hc (by simp [z])) e⟩) (fun _ _ e => e) (fun _ _ _ e => e) (fun b ps e => ⟨#[], by rw [e]; simp⟩) (fun m hm => ?_) (fun b u e => ?_) I.bare
  · have e : b = it := by simpa using hb
    subst e
    exact ⟨h1, hL, h2, h3⟩
  · obtain ⟨o, es, ep, ho, r⟩ := hm
    exact ⟨o, es, ep, k _ o (Ne.symm hL) ho, r⟩
  · refine (I.hok b u e).stay (fun c v hc q => k c v ?_ q) (fun _ q => q) fun _ _ q => q
    rcases hc with z | z
    · rw [z]; exact nit b u e
    · exact nit c _ z
theorem Inv.tok (I : Inv X pins σ H s) (t : Nat) : Inv X pins σ H { s with toks := t } := I.un (h' := s.heap) (t' := t) Un.refl I.hok
/-- all objects kept -/
theorem Inv.kept {t' : Nat} (I : Inv X pins σ H s) (k : ∀ b u, s.heap.get? b = some u → h'.get? b = some u) : Inv X pins σ H { s with heap := h', toks := t' } := I.un (Un.kept k) (I.hok.kept k)
/-- a new object laid and tracked -/
theorem Inv.laid {a : Addr} {o : HO} {t' : Nat} (I : Inv X pins σ H s) (k : ∀ b u, s.heap.get? b = some u → h'.get? b = some u) (hp : s.heap.objs.size ≤ a) (new : ObjOk X.prog X.w (upd H a o) h' a o) :
    Inv X pins σ (upd H a o) { s with heap := h', toks := t' } := I.un (Un.laid k hp (I.hok.fresh hp)) (I.hok.laid k hp new)
/-- an object written -/
theorem Inv.write {x e : Addr} {o : HO} {t' : Nat} (I : Inv X pins σ H s) (mu : Mut (H x)) (he : e = x ∨ H e = some (.own x)) (k : ∀ b u, b ≠ e → s.heap.get? b = some u → h'.get? b = some u) (heo : ∃ u, h'.get? e = some u)
    (new : ObjOk X.prog X.w (upd H x o) h' x o) : Inv X pins σ (upd H x o) { s with heap := h', toks := t' } := I.un (Un.write mu he k heo) (I.hok.write mu he k heo new)
/-- forgetting slots, pins -/
theorem Inv.weak {σ' : List (Option V)} (I : Inv X pins σ H s) (hl : σ'.length = σ.length) (w : ∀ (i : Nat) v, σ'[i]? = some (some v) → σ[i]? = some (some v)) : Inv X pins σ' H s :=
  ⟨I.ok, I.os, I.bare, I.base, let ⟨m, hn, hl'⟩ := I.loc; ⟨m, hn, fun i x v e1 e2 e3 => hl' i x v e1 (w i v e2) e3⟩, I.cell, I.free, I.freeC, I.pin, I.hok, hl.trans I.len⟩
theorem Inv.pins_of {pins' : List (Addr × Obj)} (I : Inv X pins σ H s) (h : ∀ p ∈ pins', s.heap.get? p.1 = some p.2 ∧ H p.1 = none ∧ p.1 ≠ X.env.locals ∧ p.1 ∉ X.fs ∧ ∀ v, p.2.data ≠ .cell v) : Inv X pins' σ H s :=
  ⟨I.ok, I.os, I.bare, I.base, I.loc, I.cell, I.free, I.freeC, fun p hp => (List.mem_append.mp hp).elim (fun z => I.pin p (List.mem_append_left _ z)) (h p), I.hok, I.len⟩

theorem nodup_ix {N : List Str} (hN : N.Nodup) {i j : Nat} {x : Str} (a : N[i]? = some x) (b : N[j]? = some x) : i = j := by
  obtain ⟨h1, e1⟩ := List.getElem?_eq_some_iff.mp a
  obtain ⟨h2, e2⟩ := List.getElem?_eq_some_iff.mp b
  exact (List.getElem_inj hN).mp (e1.trans e2.symm)

/-- a name is stored; what changed -/
theorem store_ok2 {M : Model} {A : Around} {E : Value → Shared → Prop} {i : Nat} {x : Str} {v : V} {u : Value} {Q : Unit → Shared → Prop} (I : Inv X pins σ H s) (hN : X.N.Nodup) (hi : X.N[i]? = some x) (hx : Loc X.env.scope x) (r : RelV v u)
    (h : ∀ s', Inv X pins (σ.set i (some v)) H s' → (∃ a, Heap.SameBut a s.heap s'.heap ∧ (a = X.env.locals ∨ X.env.cells.lookup x = some a)) → Q () s') (hf : X.fn x = true ∨ X.env.scope.names.lookup x = some .local := by first | exact .inl rfl | exact .inr rfl | assumption) : wpAny M A (storeName X.env x u) Q E s := by
  obtain ⟨m, hn, hl⟩ := id I.loc
  have hcls : (X.env.scope.kind == .class || (X.env.scope.kind == .module && X.env.locals != X.env.globals)) = false := by rw [I.ok.kind]; rfl
  have hiσ : i < σ.length := by rw [I.len]; exact (List.getElem?_eq_some_iff.mp hi).1
  have cne := I.cne
  have tracked : ∀ {a : Addr} {h' : Heap}, (∃ o, s.heap.get? a = some o ∧ H a = none) → Heap.SameBut a s.heap h' → HOk X.prog X.w H h' := fun {a h'} ha hs b ob e => by
    obtain ⟨_, _, hfree⟩ := ha
    refine (I.hok b ob e).stay (fun c w' hc q => (hs.2 c ?_).trans q) (fun _ q => q) fun _ _ q => q
    rintro rfl
    rcases hc with rfl | hc
    · rw [hfree] at e; cases e
    · rw [hfree] at hc; cases hc
  rcases hx with hk | hk
  · refine wpAny_storeName_local hk hn (fun h' hn' hs => ?_) hcls
    obtain ⟨oL, _, _, hoL, _⟩ := id hn
    refine h _ ⟨I.ok, I.os, I.bare, ⟨fun b o e n hb hx => ?_, fun b o e n hb hx => ?_, I.base.free, fun b o e hx => ?_, I.base.tups, I.base.frzs, I.base.tbls⟩, ⟨_, hn', fun j y v' e1 e2 e3 => ?_⟩, fun y c e => ?_, I.free, I.freeC, fun p hp => ?_, tracked ⟨oL, hoL, I.free⟩ hs, by simpa using I.len⟩ ⟨_, hs, .inl rfl⟩
    · exact (hs.2 b (Nat.ne_of_lt (Nat.lt_of_lt_of_le (Heap.lt_size e) I.ok.above))).trans (I.base.keep b o e n hb hx)
    · obtain ⟨sl, e1⟩ := I.base.slot b o e n hb hx
      exact ⟨sl, (hs.2 b (Nat.ne_of_lt (Nat.lt_of_lt_of_le (Heap.lt_size e) I.ok.above))).trans e1⟩
    · obtain ⟨o', e1⟩ := I.base.there b o e hx
      exact ⟨o', (hs.2 b (Nat.ne_of_lt (Nat.lt_of_lt_of_le (Heap.lt_size e) I.ok.above))).trans e1⟩
    · by_cases hj : j = i
      · subst hj
        rw [hi] at e1; cases e1
        rw [List.getElem?_set_self hiσ] at e2
        cases e2
        exact ⟨u, r, .inl ⟨hk, by simp⟩⟩
      · rw [List.getElem?_set_ne (Ne.symm hj)] at e2
        obtain ⟨u', r', q⟩ := hl j y v' e1 e2 e3
        refine ⟨u', r', ?_⟩
        rcases q with ⟨k, e⟩ | ⟨k, c, e, z⟩
        · refine .inl ⟨k, ?_⟩
          have : y ≠ x := fun e => hj (nodup_ix hN e1 (e ▸ hi))
          simp [this, e]
        · exact .inr ⟨k, c, e, z.sameBut hs (cne y c e)⟩
    · obtain ⟨w', z⟩ := I.cell y c e
      exact ⟨w', z.sameBut hs (cne y c e)⟩
    · obtain ⟨e, n, ne, nf, d⟩ := I.pin p hp
      exact ⟨(hs.2 p.1 ne).trans e, n, ne, nf, d⟩
  · have hfn : X.fn x = true := by
      rcases hf with z | z
      · exact z
      · rw [z] at hk; cases hk
    obtain ⟨c, hc⟩ := I.ok.has x (.inl hk)
    obtain ⟨w', z⟩ := I.cell x c hc
    refine wpAny_storeName_cell I.ok.kind hk hc z (fun h' hc' hs => ?_)
    obtain ⟨oc, hoc, hocd⟩ := id z
    refine h { s with heap := h' } ⟨I.ok, I.os, I.bare, ⟨fun b o e n hb hx => ?_, fun b o e n hb hx => ?_, I.base.free, fun b o e hx => ?_, I.base.tups, I.base.frzs, I.base.tbls⟩, ⟨m, hn.sameBut hs (Ne.symm (cne x c hc)), fun j y v' e1 e2 e3 => ?_⟩, fun y c' e => ?_, I.free, I.freeC, fun p hp => ?_, tracked ⟨oc, hoc, I.freeC x c hc⟩ hs, by simpa using I.len⟩ ⟨c, hs, .inr hc⟩
    · exact (hs.2 b (Nat.ne_of_lt (Nat.lt_of_lt_of_le (Heap.lt_size e) (I.ok.cab x c hfn hc)))).trans (I.base.keep b o e n hb hx)
    · obtain ⟨sl, e1⟩ := I.base.slot b o e n hb hx
      exact ⟨sl, (hs.2 b (Nat.ne_of_lt (Nat.lt_of_lt_of_le (Heap.lt_size e) (I.ok.cab x c hfn hc)))).trans e1⟩
    · obtain ⟨o', e1⟩ := I.base.there b o e hx
      exact ⟨o', (hs.2 b (Nat.ne_of_lt (Nat.lt_of_lt_of_le (Heap.lt_size e) (I.ok.cab x c hfn hc)))).trans e1⟩
    · by_cases hj : j = i
      · subst hj
        rw [hi] at e1; cases e1
        rw [List.getElem?_set_self hiσ] at e2
        cases e2
        exact ⟨u, r, .inr ⟨.inl hk, c, hc, hc'⟩⟩
      · rw [List.getElem?_set_ne (Ne.symm hj)] at e2
        obtain ⟨u', r', q⟩ := hl j y v' e1 e2 e3
        refine ⟨u', r', ?_⟩
        rcases q with q | ⟨k, c', e, z'⟩
        · exact .inl q
        · refine .inr ⟨k, c', e, z'.sameBut hs ?_⟩
          rintro rfl
          exact hj (nodup_ix hN e1 (I.ok.inj _ _ _ e hc ▸ hi))
    · by_cases hcc : c' = c
      · subst hcc; exact ⟨_, hc'⟩
      · obtain ⟨w2, z2⟩ := I.cell y c' e
        exact ⟨w2, z2.sameBut hs hcc⟩
    · obtain ⟨e, n, ne, nf, d⟩ := I.pin p hp
      refine ⟨(hs.2 p.1 ?_).trans e, n, ne, nf, d⟩
      intro q
      rw [q, hoc] at e
      have q' : oc = p.2 := Option.some.inj e
      exact d w' (by rw [← q']; exact hocd)
theorem store_ok {M : Model} {A : Around} {E : Value → Shared → Prop} {i : Nat} {x : Str} {v : V} {u : Value} {Q : Unit → Shared → Prop} (I : Inv X pins σ H s) (hN : X.N.Nodup) (hi : X.N[i]? = some x) (hx : Loc X.env.scope x) (r : RelV v u)
    (h : ∀ s', Inv X pins (σ.set i (some v)) H s' → Q () s') (hf : X.fn x = true ∨ X.env.scope.names.lookup x = some .local := by first | exact .inl rfl | exact .inr rfl | assumption) : wpAny M A (storeName X.env x u) Q E s :=
  store_ok2 I hN hi hx r (fun s' I' _ => h s' I') hf
/-- behind a call or a block, the state as it is -/
theorem Inv.call' {s' : Shared} {ch : List Addr} (I : Inv X pins σ H s) (ho : s'.os = s.os) (u : Un (frs X.stack) ch H H' s.heap s'.heap) (hok : HOk X.prog X.w H' s'.heap) (hg : AllBare s'.gens)
    (hch : ∀ b ∈ ch, (b ∈ X.ex ∨ X.s₀.heap.objs.size ≤ b) ∧ b ≠ X.env.locals ∧ (∀ x c, X.env.cells.lookup x = some c → c ≠ b) ∧ ∀ p ∈ X.pn ++ pins, p.1 ≠ b) : Inv X pins σ H' s' := by
  obtain ⟨h', g', d', t', o'⟩ := s'
  have e : o' = s.os := ho
  subst e
  exact I.call (g' := g') (t' := t') (d' := d') u hok hg hch
end

/-! ### the judgements -/
/-- an exception: its class, its own dict's address (where it has one), the abstract heap behind it -/
abbrev XK := Value → Option Addr → Hp → Prop
abbrev St := List (Option V)
abbrev VK := V → Hp → Prop
/-- an expression's reading; a test's; an argument list's -/
abbrev TE := St → Hp → VK → Prop
abbrev TT := St → Hp → (Bool → Hp → Prop) → Prop
abbrev TA := St → Hp → (List V → Hp → Prop) → Prop
/-- what is wanted behind a statement -/
structure Ends where
  nx : St → Hp → Prop
  rt : VK
  bk : St → Hp → Prop := fun _ _ => False
  ct : St → Hp → Prop := fun _ _ => False
abbrev TS := Ends → St → Hp → Prop

def EP (X : Cx) (pins : List (Addr × Obj)) (σ : St) (Q : VK) (u : Value) (s' : Shared) : Prop := ∃ v H', Inv X pins σ H' s' ∧ RelV v u ∧ Q v H'
def TP (X : Cx) (pins : List (Addr × Obj)) (σ : St) (Q : Bool → Hp → Prop) (b : Bool) (s' : Shared) : Prop := ∃ H', Inv X pins σ H' s' ∧ Q b H'
def AP (X : Cx) (pins : List (Addr × Obj)) (σ : St) (Q : List V → Hp → Prop) (us : List Value) (s' : Shared) : Prop := ∃ vs H', Inv X pins σ H' s' ∧ Vals vs us ∧ Q vs H'
def SP (X : Cx) (pins : List (Addr × Obj)) (D : Ends) (f : Flow) (s' : Shared) : Prop :=
  match f with
  | .next => ∃ σ' H', Inv X pins σ' H' s' ∧ D.nx σ' H'
  | .brk => ∃ σ' H', Inv X pins σ' H' s' ∧ D.bk σ' H'
  | .cont => ∃ σ' H', Inv X pins σ' H' s' ∧ D.ct σ' H'
  | .ret u => ∃ v σ' H', Inv X pins σ' H' s' ∧ RelV v u ∧ D.rt v H'

def PE (X : Cx) (e : Expr) (t : TE) : Prop :=
  ∀ (pins : List (Addr × Obj)) (s : Shared) (σ : St) (H : Hp) (Q : VK), Inv X pins σ H s → t σ H Q → wpAny (model X.prog X.w) X.A (eval e X.env) (EP X pins σ Q) X.xe s
def PT (X : Cx) (e : Expr) (t : TT) : Prop :=
  ∀ (pins : List (Addr × Obj)) (s : Shared) (σ : St) (H : Hp) (Q : Bool → Hp → Prop), Inv X pins σ H s → t σ H Q → wpAny (model X.prog X.w) X.A (isTrue e X.env (eval e X.env)) (TP X pins σ Q) X.xe s
/-- a test whatever its 'whole' is (and, or) -/
def PW (X : Cx) (e : Expr) (t : TT) : Prop :=
  ∀ (whole : Sem Value) (pins : List (Addr × Obj)) (s : Shared) (σ : St) (H : Hp) (Q : Bool → Hp → Prop), Inv X pins σ H s → t σ H Q → wpAny (model X.prog X.w) X.A (isTrue e X.env whole) (TP X pins σ Q) X.xe s
theorem PW.pt {X : Cx} {e : Expr} {t : TT} (h : PW X e t) : PT X e t := h _
/-- an argument list (no star), from the left -/
def PA (X : Cx) (es : List Expr) (t : TA) : Prop :=
  ∀ (pos : Pos) (pins : List (Addr × Obj)) (s : Shared) (σ : St) (H : Hp) (Q : List V → Hp → Prop), Inv X pins σ H s → t σ H Q → wpAny (model X.prog X.w) X.A (spliced (backTo pos (starEach es X.env))) (AP X pins σ Q) X.xe s
def PS (X : Cx) (st : Stmt) (t : TS) : Prop :=
  ∀ (pins : List (Addr × Obj)) (s : Shared) (σ : St) (H : Hp) (D : Ends), Inv X pins σ H s → t D σ H → wpAny (model X.prog X.w) X.A (exec st X.env) (SP X pins D) X.xe s
def PSs (X : Cx) (st : List Stmt) (t : TS) : Prop :=
  ∀ (pins : List (Addr × Obj)) (s : Shared) (σ : St) (H : Hp) (D : Ends), Inv X pins σ H s → t D σ H → wpAny (model X.prog X.w) X.A (execs st X.env) (SP X pins D) X.xe s
/-- weaken the end -/
theorem thn {α : Type} {t : Sem α} {Q Q' : α → Shared → Prop} {M : Model} {A : Around} {E : Value → Shared → Prop} {s : Shared} (h : wpAny M A t Q E s) (hQ : ∀ a s, Q a s → Q' a s) : wpAny M A t Q' E s := wpAny_mono h hQ fun _ _ x => x
end L2

namespace L2
open PySem PySem.Spec PyProof.Rows
section
variable {X : Cx}

/-! ### names and constants -/
def tVar (i : Nat) : TE := fun σ H Q => ∃ v, σ[i]? = some (some v) ∧ Q v H
def tC (v : V) : TE := fun _ H Q => Q v H
theorem pe_var {i : Nat} {x : Str} {pos : Pos} (hN : X.N[i]? = some x) (hv : Vis X.env.scope x) (hd : (x == ("__debug__" : Str)) = false := by decide) (hcd : (x == ("__classdict__" : Str)) = false := by decide) : PE X (.Name x pos) (tVar i) := by
  intro pins s σ H Q I h
  obtain ⟨v, e, h⟩ := h
  obtain ⟨m, hn, hl⟩ := I.loc
  obtain ⟨u, r, l⟩ := hl i x v hN e hv
  have fin : EP X pins σ Q u s := ⟨v, H, I, r, h⟩
  rcases l with ⟨hk, hm⟩ | ⟨hk, c, hc, hcell⟩
  · exact wpAny_Name (wpAny_loadName_local I.ok.kind hk hn hm fin) hd
  · rcases hk with hk | hk
    · exact wpAny_Name (wpAny_loadName_cell I.ok.kind hk hc hcell fin) hd
    · exact wpAny_Name (wpAny_loadName_free I.ok.kind hk hc hcell fin hcd) hd
theorem pe_int {i j pos} : PE X (.Constant (.int i) j pos) (tC (.int i)) := fun _ _ _ H _ I h => wpAny_Constant_int ⟨.int i, H, I.tok _, ⟨_, rfl⟩, h⟩
theorem pe_bl {b j pos} : PE X (.Constant (.bool b) j pos) (tC (.bl b)) := fun _ _ _ H _ I h => Constant_bool ⟨.bl b, H, I, rfl, h⟩
theorem pe_non {j pos} : PE X (.Constant .none j pos) (tC .non) := fun _ _ _ H _ I h => Constant_none ⟨.non, H, I, rfl, h⟩
theorem pe_str {x j pos} : PE X (.Constant (.str x) j pos) (tC (.str x)) := fun _ _ _ H _ I h => Calls.Constant_str ⟨.str x, H, I.tok _, ⟨_, rfl⟩, h⟩

/-- a global name of the def -/
def Gl (X : Cx) (x : Str) : Prop := X.env.kindOf x = some .globalImplicit
theorem ld_glob {E : Value → Shared → Prop} {pins : List (Addr × Obj)} {s : Shared} {σ : St} {H : Hp} {x : Str} {u : Value} {pos : Pos} {Q : Value → Shared → Prop} (I : Inv X pins σ H s) (hg : Gl X x) (hm : X.mg x = some u) (h : Q u s)
    (hd : (x == ("__debug__" : Str)) = false := by decide) : wpAny (model X.prog X.w) X.A (eval (.Name x pos) X.env) Q E s :=
  Calls.Name_function_global I.ok.kind hg (Calls.loadGlobal_global (by rw [I.ok.glob]; exact I.mod.glob.keeps I.bk) hm h) hd
theorem ld_blt {E : Value → Shared → Prop} {pins : List (Addr × Obj)} {s : Shared} {σ : St} {H : Hp} {x : Str} {u : Value} {pos : Pos} {Q : Value → Shared → Prop} (I : Inv X pins σ H s) (hg : Gl X x) (hm : X.mg x = none) (hv : bootBuiltins x = some u) (h : Q u s)
    (hn : x ≠ "__name__" := by decide) (hd : (x == ("__debug__" : Str)) = false := by decide) : wpAny (model X.prog X.w) X.A (eval (.Name x pos) X.env) Q E s := by
  obtain ⟨mb, h1, h2⟩ := I.mod.blt
  exact Calls.Name_function_global I.ok.kind hg (Calls.loadGlobal_builtin (by rw [I.ok.glob]; exact I.mod.glob.keeps I.bk) hm (by rw [I.ok.blt]; exact h1.keeps I.bk) ((h2 x hn).trans hv) h) hd
/-- a module's constant, a class, a function, as a value -/
theorem pe_glob {x : Str} {v : V} {u : Value} {pos : Pos} (hg : Gl X x) (hm : X.mg x = some u) (r : RelV v u) (hd : (x == ("__debug__" : Str)) = false := by decide) : PE X (.Name x pos) (tC v) :=
  fun _ _ _ H _ I h => ld_glob I hg hm ⟨v, H, I, r, h⟩ hd
theorem pe_bltn {x : Str} {v : V} {u : Value} {pos : Pos} (hg : Gl X x) (hm : X.mg x = none) (hv : bootBuiltins x = some u) (r : RelV v u) (hn : x ≠ "__name__" := by decide) (hd : (x == ("__debug__" : Str)) = false := by decide) : PE X (.Name x pos) (tC v) :=
  fun _ _ _ H _ I h => ld_blt I hg hm hv ⟨v, H, I, r, h⟩ hn hd

variable {a b : Expr} {ta tb : TE} {pos : Pos}
/-! ### comparisons -/
def PC (X : Cx) (op : CmpOp) (a b : Expr) (t : TE) : Prop :=
  ∀ (pins : List (Addr × Obj)) (s : Shared) (σ : St) (H : Hp) (Q : VK), Inv X pins σ H s → t σ H Q →
    wpAny (model X.prog X.w) X.A (eval a X.env) (fun v s₁ => wpAny (model X.prog X.w) X.A (eval b X.env) (fun u s₂ => wpAny (model X.prog X.w) X.A (compareOp op v u) (EP X pins σ Q) X.xe s₂) X.xe s₁) X.xe s
theorem nobehind (b : Expr) {op : CmpOp} (h : op ≠ .In) (h2 : op ≠ .NotIn) : behindInMarks op b = false := by
  have e1 : (op == CmpOp.In) = false := by cases op <;> first | rfl | exact absurd rfl h
  have e2 : (op == CmpOp.NotIn) = false := by cases op <;> first | rfl | exact absurd rfl h2
  cases b <;> simp [behindInMarks, e1, e2]
/-- a comparison as a value, as a test -/
def tB (t : TE) : TT := fun σ H Q => t σ H fun x H1 => ∃ c, x = .bl c ∧ Q c H1
theorem pe_cmp {op : CmpOp} {t : TE} (h : PC X op a b t) (h1 : behindInMarks op b = false := by first | exact nobehind _ (by decide) (by decide) | rfl) : PE X (.Compare a [op] [b] pos) t := fun pins s σ H Q I hw => wpAny_Compare1 (h pins s σ H Q I hw) h1
theorem pt_cmp {op : CmpOp} {t : TE} (h : PC X op a b t) (h1 : behindInMarks op b = false := by first | exact nobehind _ (by decide) (by decide) | rfl) : PT X (.Compare a [op] [b] pos) (tB t) := by
  intro pins s σ H Q I hw
  refine wpAny_isTrue_Compare1 (thn (h pins s σ H _ I hw) fun v s1 h1 => thn h1 fun u s2 h2 => thn h2 fun c s3 ⟨x, H1, I1, r1, q1⟩ => ?_) h1
  obtain ⟨d, rfl, q⟩ := q1
  cases r1
  exact wpAny_truthy_bool ⟨H1, I1, q⟩
/-- an expression whose value is a bool, as a test -/
theorem pt_val {e : Expr} {t : TE} (h : PE X e t) (he : ∀ whole, isTrue e X.env whole = (do let v ← whole; standAt e.pos; holding [v] (truthy v)) := by intro _; rfl) : PT X e (tB t) := by
  intro pins s σ H Q I hw
  refine isTrue_plain (thn (h pins s σ H _ I hw) fun v s1 ⟨x, H1, I1, r1, q1⟩ => ?_) (he _)
  obtain ⟨d, rfl, q⟩ := q1
  cases r1
  exact wpAny_truthy_bool ⟨H1, I1, q⟩

/-! ### and, or, not -/
variable {tA tB' : TT} {rest : List Expr}
def tAnd (t u : TT) : TT := fun σ H Q => t σ H fun c H1 => if c = true then u σ H1 Q else Q false H1
def tOr (t u : TT) : TT := fun σ H Q => t σ H fun c H1 => if c = true then Q true H1 else u σ H1 Q
def tNot (t : TT) : TT := fun σ H Q => t σ H fun c H1 => Q (!c) H1
theorem pw_and1 (ha : PT X a tA) : PW X (.BoolOp .And [a] pos) tA := by
  intro wh pins s σ H Q I h
  refine isTrue_and (thn (ha pins s σ H Q I h) fun c s1 e => ?_)
  cases c with
  | true => exact isTrue_and_nil e
  | false => exact e
theorem pw_or1 (ha : PT X a tA) : PW X (.BoolOp .Or [a] pos) tA := by
  intro wh pins s σ H Q I h
  refine isTrue_or (thn (ha pins s σ H Q I h) fun c s1 e => ?_)
  cases c with
  | false => exact isTrue_or_nil e
  | true => exact e
theorem pw_and (ha : PT X a tA) (hb : PW X (.BoolOp .And (b :: rest) pos) tB') : PW X (.BoolOp .And (a :: b :: rest) pos) (tAnd tA tB') := by
  intro wh pins s σ H Q I h
  refine isTrue_and (thn (ha pins s σ H _ I h) fun c s1 ⟨H1, I1, q1⟩ => ?_)
  cases c with
  | true => exact hb wh pins s1 σ H1 Q I1 q1
  | false => exact ⟨H1, I1, q1⟩
theorem pw_or (ha : PT X a tA) (hb : PW X (.BoolOp .Or (b :: rest) pos) tB') : PW X (.BoolOp .Or (a :: b :: rest) pos) (tOr tA tB') := by
  intro wh pins s σ H Q I h
  refine isTrue_or (thn (ha pins s σ H _ I h) fun c s1 ⟨H1, I1, q1⟩ => ?_)
  cases c with
  | true => exact ⟨H1, I1, q1⟩
  | false => exact hb wh pins s1 σ H1 Q I1 q1
theorem pt_not (ha : PT X a tA) : PT X (.UnaryOp .Not a pos) (tNot tA) := by
  intro pins s σ H Q I h
  exact isTrue_not (ha pins s σ H (fun c H1 => Q (!c) H1) I h)
/-- .. as values (bools) -/
def tAndV (ta tb : TE) : TE := fun σ H Q => ta σ H fun x H1 => ∃ c, x = .bl c ∧ if c = true then tb σ H1 Q else Q (.bl false) H1
def tOrV (ta tb : TE) : TE := fun σ H Q => ta σ H fun x H1 => ∃ c, x = .bl c ∧ if c = true then Q (.bl true) H1 else tb σ H1 Q
def tNotV (ta : TE) : TE := fun σ H Q => ta σ H fun x H1 => ∃ c, x = .bl c ∧ Q (.bl (!c)) H1
theorem pe_one {op} {t : TE} (h : PE X a t) : PE X (.BoolOp op [a] pos) t := fun pins s σ H Q I hw => BoolOp_one (h pins s σ H Q I hw)
theorem pe_and (ha : PE X a ta) (hb : PE X (.BoolOp .And (b :: rest) pos) tb) : PE X (.BoolOp .And (a :: b :: rest) pos) (tAndV ta tb) := by
  intro pins s σ H Q I h
  refine BoolOp_and (thn (ha pins s σ H _ I h) fun v s1 ⟨x, H1, I1, r1, q1⟩ => ?_)
  obtain ⟨c, rfl, q1⟩ := q1
  cases r1
  refine wpAny_truthy_bool ?_
  cases c with
  | true => exact hb pins s1 σ H1 Q I1 q1
  | false => exact ⟨.bl false, H1, I1, rfl, q1⟩
/-- a if t else b -/
def tIf (t : TT) (ta tb : TE) : TE := fun σ H Q => t σ H fun c H1 => if c = true then ta σ H1 Q else tb σ H1 Q
theorem pe_ifExp {c : Expr} (hc : PT X c tA) (ha : PE X a ta) (hb : PE X b tb) : PE X (.IfExp c a b pos) (tIf tA ta tb) := by
  intro pins s σ H Q I h
  refine wpAny_IfExp (thn (hc pins s σ H _ I h) fun d s1 ⟨H1, I1, q1⟩ => ?_)
  cases d with
  | true => exact ha pins s1 σ H1 Q I1 q1
  | false => exact hb pins s1 σ H1 Q I1 q1
end
end L2

namespace L2
open PySem PySem.Spec PyProof.Rows

/-! ### a list, a tuple that is read: tracked, frozen, or an object of the module -/
def SqL (K : PySem.W.Frag) (H : Hp) (a : Addr) (xs : List V) : Prop :=
  Rd H a (.lst xs) ∨
    ∃ (o : Obj) (its : Array Value) (n : Nat), K.lookup a = some o ∧ o.cls = .type "list" ∧ o.dict = none ∧ o.data = .seq its n ∧ its.size ≤ sizeLine ∧ Vals xs its.toList
def SqT (K : PySem.W.Frag) (H : Hp) (a : Addr) (xs : List V) : Prop :=
  Rd H a (.tup xs) ∨
    ∃ (o : Obj) (its : Array Value) (n : Nat), K.lookup a = some o ∧ o.cls = .type "tuple" ∧ o.data = .seq its n ∧ its.size ≤ sizeLine ∧ Vals xs its.toList
def absV : Value → Option V
  | .none => some .non
  | .bool b => some (.bl b)
  | .int i _ => some (.int i)
  | .str x _ => some (.str x)
  | .bytes b _ => some (.byt b)
  | .float b _ => some (.flt b)
  | .ref a => some (.ref a)
  | .type n => some (.ty n)
  | _ => none
theorem RelV.abs {x : V} {u : Value} (r : RelV x u) : absV u = some x := by
  cases x with
  | non => cases r; rfl
  | bl _ => cases r; rfl
  | int _ => obtain ⟨t, rfl⟩ := r; rfl
  | str _ => obtain ⟨t, rfl⟩ := r; rfl
  | byt _ => obtain ⟨t, rfl⟩ := r; rfl
  | flt _ => obtain ⟨t, rfl⟩ := r; rfl
  | ref _ => cases r; rfl
  | ty _ => cases r; rfl
theorem RelV.inj {x y : V} {u : Value} (r : RelV x u) (q : RelV y u) : x = y := Option.some.inj (r.abs.symm.trans q.abs)
theorem Vals.inj : ∀ {xs ys : List V} {us : List Value}, Vals xs us → Vals ys us → xs = ys
  | _, _, _, .nil, .nil => rfl
  | _, _, _, .cons r t, .cons r' t' => by rw [r.inj r', Vals.inj t t']
section
variable {X : Cx} {pins : List (Addr × Obj)} {σ : St} {H : Hp} {s : Shared} {a : Addr} {xs ys : List V}
theorem SqL.of {K : PySem.W.Frag} (h : H a = some (.lst xs)) : SqL K H a xs := .inl (.inl h)
theorem SqT.of {K : PySem.W.Frag} (h : H a = some (.tup xs)) : SqT K H a xs := .inl (.inl h)
theorem Inv.list (I : Inv X pins σ H s) (h : SqL X.K H a xs) : ∃ its : List Value, Vals xs its ∧ PlainL s.heap a its.toArray ∧ xs.length ≤ sizeLine := by
  rcases h with h | ⟨o, its, n, hk, hc, hd, hs, hz, r⟩
  · obtain ⟨z, its, n, r, e⟩ := h.ok I.hok
    exact ⟨its, r, ⟨_, n, e, rfl, rfl, rfl⟩, z⟩
  · refine ⟨its.toList, r, ⟨o, n, I.kIn a o hk, hc, hd, by simpa using hs⟩, ?_⟩
    have e := r.length
    simp only [Array.length_toList] at e
    omega
theorem Inv.tuple (I : Inv X pins σ H s) (h : SqT X.K H a xs) : ∃ its : List Value, Vals xs its ∧ IsTup s.heap a its.toArray ∧ xs.length ≤ sizeLine := by
  rcases h with h | ⟨o, its, n, hk, hc, hs, hz, r⟩
  · obtain ⟨z, its, r, p⟩ := h.ok I.hok
    exact ⟨its, r, p, z⟩
  · refine ⟨its.toList, r, ⟨o, I.kIn a o hk, hc, n, by simpa using hs⟩, ?_⟩
    have e := r.length
    simp only [Array.length_toList] at e
    omega
theorem Inv.list_inj (I : Inv X pins σ H s) (h : SqL X.K H a xs) (h' : SqL X.K H a ys) : xs = ys := by
  obtain ⟨its, r, ⟨o, n, e, _, _, d⟩, _⟩ := I.list h
  obtain ⟨its', r', ⟨o', n', e', _, _, d'⟩, _⟩ := I.list h'
  rw [e] at e'; cases e'
  rw [d] at d'
  injection d' with d1 _
  have : its = its' := by simpa using congrArg Array.toList d1
  subst this
  exact r.inj r'
end

/-! ### another wish about exceptions -/
abbrev Cx.wish (X : Cx) (E : Value → Shared → Prop) : Cx := { X with xe := E }
/-- no exception leaves -/
abbrev Cx.nox (X : Cx) : Cx := X.wish fun _ _ => False
theorem Cx.Ok.wish {X : Cx} (ok : X.Ok) (E : Value → Shared → Prop) : (X.wish E).Ok :=
  ⟨ok.mod, ok.kind, ok.glob, ok.blt, ok.above, ok.inj, ok.has, ok.cab, ok.hd, ok.frames, ok.stk, ok.exf, ok.bs, ok.bsz, ok.noex, ok.exfs, ok.funs, ok.frf⟩
theorem Cx.Ok.unwish {X : Cx} {E : Value → Shared → Prop} (ok : (X.wish E).Ok) : X.Ok :=
  ⟨ok.mod, ok.kind, ok.glob, ok.blt, ok.above, ok.inj, ok.has, ok.cab, ok.hd, ok.frames, ok.stk, ok.exf, ok.bs, ok.bsz, ok.noex, ok.exfs, ok.funs, ok.frf⟩
section
variable {X : Cx} {pins : List (Addr × Obj)} {σ : St} {H : Hp} {s : Shared} {E : Value → Shared → Prop}
theorem Inv.wish (I : Inv X pins σ H s) (E : Value → Shared → Prop) : Inv (X.wish E) pins σ H s := ⟨I.ok.wish E, I.os, I.bare, I.base, I.loc, I.cell, I.free, I.freeC, I.pin, I.hok, I.len⟩
theorem Inv.unwish (I : Inv (X.wish E) pins σ H s) : Inv X pins σ H s := ⟨I.ok.unwish, I.os, I.bare, I.base, I.loc, I.cell, I.free, I.freeC, I.pin, I.hok, I.len⟩
theorem SP.unwish {D : Ends} {f : Flow} {s' : Shared} (h : SP (X.wish E) pins D f s') : SP X pins D f s' := by
  cases f with
  | next => obtain ⟨σ', H', I, q⟩ := h; exact ⟨σ', H', I.unwish, q⟩
  | brk => obtain ⟨σ', H', I, q⟩ := h; exact ⟨σ', H', I.unwish, q⟩
  | cont => obtain ⟨σ', H', I, q⟩ := h; exact ⟨σ', H', I.unwish, q⟩
  | ret u => obtain ⟨v, σ', H', I, r, q⟩ := h; exact ⟨v, σ', H', I.unwish, r, q⟩
theorem PE.nox {e : Expr} {t : TE} (h : PE X.nox e t) : PE X e t := fun pins s σ H Q I hw =>
  wpAny_mono (h pins s σ H Q (I.wish _) hw) (fun _ _ ⟨v, H', I', r, q⟩ => ⟨v, H', I'.unwish, r, q⟩) fun _ _ z => False.elim z
theorem PT.nox {e : Expr} {t : TT} (h : PT X.nox e t) : PT X e t := fun pins s σ H Q I hw =>
  wpAny_mono (h pins s σ H Q (I.wish _) hw) (fun _ _ ⟨H', I', q⟩ => ⟨H', I'.unwish, q⟩) fun _ _ z => False.elim z
theorem PSs.nox {st : List Stmt} {t : TS} (h : PSs X.nox st t) : PSs X st t := fun pins s σ H D I hw =>
  wpAny_mono (h pins s σ H D (I.wish _) hw) (fun _ _ q => q.unwish) fun _ _ z => False.elim z
end

/-! ### blocks and small statements -/
section
variable {X : Cx} {st : Stmt} {rest : List Stmt} {t u : TS} {e : Expr} {te : TE} {pos : Pos}
def tNext : TS := fun D σ H => D.nx σ H
def tSeq (t u : TS) : TS := fun D σ H => t { D with nx := u D } σ H
theorem pss_nil : PSs X [] tNext := fun _ _ σ H _ I h => wpAny_execs_nil ⟨σ, H, I, h⟩
theorem pss_cons (h1 : PS X st t) (h2 : PSs X rest u) : PSs X (st :: rest) (tSeq t u) := by
  intro pins s σ H D I h
  refine wpAny_execs_cons (thn (h1 pins s σ H { D with nx := u D } I h) fun f s1 q => ?_)
  cases f with
  | next =>
    obtain ⟨σ', H', I', q⟩ := q
    exact h2 pins s1 σ' H' D I' q
  | ret v => exact q
  | brk => exact q
  | cont => exact q
theorem pss_one (h1 : PS X st t) : PSs X [st] t := by
  intro pins s σ H D I h
  refine wpAny_execs_cons (thn (h1 pins s σ H D I h) fun f s1 q => ?_)
  cases f with
  | next => exact wpAny_execs_nil q
  | ret v => exact q
  | brk => exact q
  | cont => exact q
/-- in a def's body nothing is shown -/
theorem Inv.quiet {pins : List (Addr × Obj)} {σ : St} {H : Hp} {s : Shared} (I : Inv X pins σ H s) : interactive X.env = false := by simp [interactive, I.ok.kind]
/-- an expression whose value is dropped -/
def tDrop (te : TE) : TS := fun D σ H => te σ H fun _ H1 => D.nx σ H1
theorem ps_expr (he : PE X e te) (hs : swapsWith e none pos.line X.env = pure false := by rfl) : PS X (.Expr e pos) (tDrop te) := by
  intro pins s σ H D I h
  exact wpAny_Expr_any (thn (he pins s σ H _ I h) fun v s1 ⟨x, H1, I1, r1, q1⟩ => ⟨σ, H1, I1, q1⟩) I.quiet hs
def tRet (te : TE) : TS := fun D σ H => te σ H D.rt
theorem ps_ret (he : PE X e te) : PS X (.Return (some e) pos) (tRet te) := by
  intro pins s σ H D I h
  exact wpAny_Return_some (thn (he pins s σ H _ I h) fun v s1 ⟨x, H1, I1, r1, q1⟩ => ⟨x, σ, H1, I1, r1, q1⟩)
def tRetN : TS := fun D _ H => D.rt .non H
def tIfS (c : TT) (t u : TS) : TS := fun D σ H => c σ H fun b H1 => if b = true then t D σ H1 else u D σ H1
theorem ps_if {c : Expr} {a b : List Stmt} {tc : TT} (hc : PT X c tc) (ha : PSs X a t) (hb : PSs X b u) : PS X (.If c a b pos) (tIfS tc t u) := by
  intro pins s σ H D I h
  refine wpAny_If (thn (hc pins s σ H _ I h) fun d s1 ⟨H1, I1, q1⟩ => ?_)
  cases d with
  | true => exact ha pins s1 σ H1 D I1 q1
  | false => exact hb pins s1 σ H1 D I1 q1
end

/-! ### targets -/
abbrev TG := V → St → Hp → (St → Hp → Prop) → Prop
abbrev TGs := List V → St → Hp → (St → Hp → Prop) → Prop
def PG (X : Cx) (target : Expr) (t : TG) : Prop :=
  ∀ (pins : List (Addr × Obj)) (s : Shared) (σ : St) (H : Hp) (v : V) (u : Value) (Q : St → Hp → Prop), Inv X pins σ H s → RelV v u → t v σ H Q →
    wpAny (model X.prog X.w) X.A (assign target X.env u) (fun _ s' => ∃ σ' H', Inv X pins σ' H' s' ∧ Q σ' H') X.xe s
/-- several targets, one after another -/
def PGs (X : Cx) (ts : List Expr) (t : TGs) : Prop :=
  ∀ (pins : List (Addr × Obj)) (s : Shared) (σ : St) (H : Hp) (vs : List V) (us : List Value) (Q : St → Hp → Prop), Inv X pins σ H s → Vals vs us → t vs σ H Q →
    wpAny (model X.prog X.w) X.A (assignInOrder ((assignEach ts X.env).map (·.2)) us) (fun _ s' => ∃ σ' H', Inv X pins σ' H' s' ∧ Q σ' H') X.xe s
/-- o[i] = v, by values -/
abbrev TSet := V → V → V → Hp → (Hp → Prop) → Prop
def PSet (X : Cx) (t : TSet) : Prop :=
  ∀ (pins : List (Addr × Obj)) (s : Shared) (σ : St) (H : Hp) (o i v : V) (ov iv u : Value) (Q : Hp → Prop), Inv X pins σ H s → RelV o ov → RelV i iv → RelV v u → t o i v H Q →
    wpAny (model X.prog X.w) X.A (setItem ov iv u) (fun _ s' => ∃ H', Inv X pins σ H' s' ∧ Q H') X.xe s
section
variable {X : Cx} {pos : Pos}
def gName (i : Nat) : TG := fun v σ H Q => Q (σ.set i (some v)) H
theorem pg_name {i : Nat} {x : Str} (hN : X.N.Nodup) (hi : X.N[i]? = some x) (hx : Loc X.env.scope x) (hf : X.fn x = true ∨ X.env.scope.names.lookup x = some .local := by first | exact .inl rfl | exact .inr rfl | assumption) : PG X (.Name x pos) (gName i) := by
  intro pins s σ H v u Q I r h
  exact wpAny_assign_Name (store_ok I hN hi hx r (fun s' I' => ⟨_, H, I', h⟩) hf)
def gNil : TGs := fun vs σ H Q => vs = [] ∧ Q σ H
def gCons (t : TG) (u : TGs) : TGs := fun vs σ H Q => ∃ v r, vs = v :: r ∧ t v σ H fun σ' H' => u r σ' H' Q
theorem pgs_nil : PGs X [] gNil := by
  intro pins s σ H vs us Q I r h
  obtain ⟨e, h⟩ := h
  subst e
  cases r
  exact assignInOrder_nil ⟨σ, H, I, h⟩
theorem pgs_cons {e : Expr} {es : List Expr} {t : TG} {u : TGs} (h1 : PG X e t) (h2 : PGs X es u)
    (hs : (assignEach (e :: es) X.env).map (·.2) = assign e X.env :: (assignEach es X.env).map (·.2) := by rfl) : PGs X (e :: es) (gCons t u) := by
  intro pins s σ H vs us Q I r h
  obtain ⟨v, vr, e1, h⟩ := h
  subst e1
  cases r with
  | cons r rr =>
    rw [hs]
    refine assignInOrder_cons (thn (h1 pins s σ H _ _ _ I r h) fun _ s1 ⟨σ1, H1, I1, q1⟩ => ?_)
    exact h2 pins s1 σ1 H1 _ _ Q I1 rr q1
/-- (a, b, ..) = a tuple of that length -/
def gTup (K : PySem.W.Frag) (n : Nat) (t : TGs) : TG := fun v σ H Q => ∃ a xs, v = .ref a ∧ SqT K H a xs ∧ xs.length = n ∧ t xs σ H Q
theorem pg_tup {es : List Expr} {k : Nat} {t : TGs} {n : Nat} (hc : X.calm = true) (h : PGs X es t)
    (hn : (assignEach es X.env).length = n := by rfl) (hst : (assignEach es X.env).findIdx? (·.1) = none := by rfl) : PG X (.Tuple es k pos) (gTup X.K n t) := by
  intro pins s σ H v u Q I r hw
  obtain ⟨a, xs, e1, hq, hl, hw⟩ := hw
  subst e1
  cases r
  obtain ⟨its, rv, ht, hz⟩ := I.tuple hq
  refine assign_Tuple_tuple (I.ok.hd hc) ht (by simp [hn, ← hl, rv.length]) hst fun h' hx => ?_
  have I1 : Inv X pins σ H { s with heap := h' } := I.kept (t' := s.toks) fun b o e => hx b o (Nat.ne_of_lt (Heap.lt_size e)) e
  exact h pins _ σ H xs _ Q I1 (by simpa using rv) hw
/-- o[i] = .. -/
def gSub (to ti : TE) (t : TSet) : TG := fun v σ H Q => to σ H fun o H1 => ti σ H1 fun i H2 => t o i v H2 fun H3 => Q σ H3
theorem pg_sub {o i : Expr} {to ti : TE} {t : TSet} (ho : PE X o to) (hi : PE X i ti) (hs : PSet X t)
    (ha : ∀ v, assign (.Subscript o i pos) X.env v = (do
      let ov ← holding [v] (eval o X.env)
      let iv ← holding [v, ov] (eval i X.env)
      standAt pos
      holding [v, ov, iv] (setItem ov iv v)
      release [v, ov, iv] []) := by intro _; rfl) : PG X (.Subscript o i pos) (gSub to ti t) := by
  intro pins s σ H v u Q I r h
  rw [ha]
  refine wpAny_bind (wpAny_holding (thn (ho pins s σ H _ I h) fun ov s1 ⟨x, H1, I1, r1, q1⟩ => ?_))
  refine wpAny_bind (wpAny_holding (thn (hi pins s1 σ H1 _ I1 q1) fun iv s2 ⟨y, H2, I2, r2, q2⟩ => ?_))
  refine wpAny_bind (wpAny_standAt (wpAny_bind (wpAny_holding (thn (hs pins s2 σ H2 x y v ov iv u _ I2 r1 r2 r q2) fun _ s3 ⟨H3, I3, q3⟩ => ?_))))
  exact wpAny_release ⟨σ, H3, I3, q3⟩
/-- target = value -/
def tAsg (te : TE) (g : TG) : TS := fun D σ H => te σ H fun x H1 => g x σ H1 D.nx
theorem ps_asg {tg e : Expr} {te : TE} {g : TG} (he : PE X e te) (hg : PG X tg g) (hs : swapsWithSole [tg] e pos.line X.env = pure false := by rfl) (hw : swappedStores [tg] e X.env = pure none := by rfl)
    (h1 : (assignEach [tg] X.env).map (·.2) = [assign tg X.env] := by rfl) : PS X (.Assign [tg] e pos) (tAsg te g) := by
  intro pins s σ H D I h
  refine wpAny_Assign_stores (thn (he pins s σ H _ I h) fun v s1 ⟨x, H1, I1, r1, q1⟩ => ?_) hs hw
  rw [h1]
  exact thn (hg pins s1 σ H1 x v _ I1 r1 q1) fun _ s2 q => q
/-- name = value -/
theorem ps_set {i : Nat} {x : Str} {e : Expr} {te : TE} {pos' : Pos} (hN : X.N.Nodup) (hi : X.N[i]? = some x) (hx : Loc X.env.scope x) (he : PE X e te) (hs : swapsWith e (some (.Name x pos')) pos.line X.env = pure false := by rfl) (hf : X.fn x = true ∨ X.env.scope.names.lookup x = some .local := by first | exact .inl rfl | exact .inr rfl | assumption) :
    PS X (.Assign [.Name x pos'] e pos) (tAsg te (gName i)) := by
  intro pins s σ H D I h
  refine wpAny_Assign_Name (thn (he pins s σ H _ I h) fun v s1 ⟨y, H1, I1, r1, q1⟩ => ?_) hs
  exact store_ok I1 hN hi hx r1 (fun s2 I2 => ⟨_, H1, I2, q1⟩) hf
end

/-! ### while -/
section
variable {X : Cx} {pos : Pos}
/-- the invariant W with its measure -/
def tWhile (c : TT) (tb : TS) : TS := fun D σ H => ∃ W : Nat → St → Hp → Prop, (∃ m, W m σ H) ∧ ∀ m σ H, W m σ H →
  c σ H fun b H1 => if b = true then ∃ N : St → Hp → Prop, (∀ σ' H', N σ' H' → ∃ m', m' < m ∧ W m' σ' H') ∧ tb { D with nx := N, ct := N, bk := D.nx } σ H1 else D.nx σ H1
theorem ps_while {c : Expr} {body : List Stmt} {tc : TT} {tb : TS} (hp : PassesOwn (model X.prog X.w) X.A X.env X.xe) (hc : PT X c tc) (hb : PSs X body tb) : PS X (.While c body [] pos) (tWhile tc tb) := by
  intro pins s σ H D I h
  obtain ⟨W, ⟨m0, w0⟩, turn⟩ := h
  refine wpAny_While (codeAny_whileLoop (fun n s' => ∃ σ' H', Inv X pins σ' H' s' ∧ W n σ' H') ?_ m0 ⟨σ, H, I, w0⟩)
  rintro n s1 ⟨σ1, H1, I1, w1⟩
  refine wpAny_passesOwn hp (thn (hc pins s1 σ1 H1 _ I1 (turn n σ1 H1 w1)) fun b s2 ⟨H2, I2, q2⟩ => ?_)
  cases b with
  | true =>
    obtain ⟨N, hN, q2⟩ := q2
    rw [if_pos rfl]
    refine wpAny_passesOwn hp (thn (hb pins s2 σ1 H2 _ I2 q2) fun f s3 q3 => ?_)
    cases f with
    | next =>
      obtain ⟨σ3, H3, I3, n3⟩ := q3
      obtain ⟨m', hm, w3⟩ := hN σ3 H3 n3
      exact ⟨m', hm, σ3, H3, I3, w3⟩
    | cont =>
      obtain ⟨σ3, H3, I3, n3⟩ := q3
      obtain ⟨m', hm, w3⟩ := hN σ3 H3 n3
      exact ⟨m', hm, σ3, H3, I3, w3⟩
    | brk => exact q3
    | ret v => exact q3
  | false =>
    rw [if_neg Bool.false_ne_true]
    exact wpAny_execs_nil ⟨σ1, H2, I2, q2⟩
end

/-! ### what a loop or a comprehension walks -/
/-- at turn i: it yields x (the heap may grow), or it stops -/
structure It where
  go : Nat → Hp → Prop
  yld : Nat → Hp → V → Hp → Prop
  stop : Nat → Hp → Prop
/-- the iterator's own objects may turn: they are not the frame's, not pinned, younger than the entry (or a comprehension's own) -/
def FpOk (X : Cx) (pins : List (Addr × Obj)) (H : Hp) (b : Addr) : Prop :=
  H b = none ∧ b ≠ X.env.locals ∧ b ∉ X.fs ∧ (b ∈ X.ex ∨ X.s₀.heap.objs.size ≤ b) ∧ (∀ x c, X.env.cells.lookup x = some c → c ≠ b) ∧ ∀ p ∈ X.pn ++ pins, p.1 ≠ b
theorem Inv.fpOk {X : Cx} {pins : List (Addr × Obj)} {σ : St} {H H' : Hp} {s : Shared} {b : Addr} (I : Inv X pins σ H s) (hb : s.heap.objs.size ≤ b) (hn : H' b = none) : FpOk X pins H' b := by
  refine ⟨hn, Nat.ne_of_gt (Nat.lt_of_lt_of_le I.lt hb), I.nofs hb, .inr (Nat.le_trans I.sz hb), fun x c e z => ?_, fun p hp z => ?_⟩
  · obtain ⟨v, q⟩ := I.cell x c e
    exact absurd (Nat.lt_of_lt_of_le q.lt (by rw [z]; exact hb)) (Nat.lt_irrefl _)
  · exact absurd (Nat.lt_of_lt_of_le (Heap.lt_size (I.pin p hp).1) (by rw [z]; exact hb)) (Nat.lt_irrefl _)
structure Turn (P : Program) (w : World) (K : PySem.W.Frag) (tg : Expr) (J : It) (fp : List Addr) (it : Addr) (tn : Nat → Heap → Prop) : Prop where
  mem : it ∈ fp
  obj : ∀ i h, tn i h → ∀ b ∈ fp, ∃ o, h.get? b = some o ∧ ∀ v, o.data ≠ .cell v
  keep : ∀ i h h', tn i h → (∀ b ∈ fp, ∀ o, h.get? b = some o → h'.get? b = some o) → tn i h'
  item : ∀ (X : Cx), X.prog = P → X.w = w → X.K = K → X.calm = true → ∀ (i : Nat) (pins : List (Addr × Obj)) (s : Shared) (σ : St) (H : Hp) (E : Value → Shared → Prop), Inv X pins σ H s → (∀ b ∈ fp, FpOk X pins H b) → tn i s.heap → J.go i H →
    wpAny (model P w) X.A (pyNext (.ref it)) (fun r s1 => ∃ u, r = some u ∧
      wpAny (model P w) X.A (letOwnedTupleGo tg (.ref it) u) (fun _ s2 => ∃ x H', Inv X pins σ H' s2 ∧ RelV x u ∧ J.yld i H x H' ∧ tn (i + 1) s2.heap ∧ ∀ b ∈ fp, H' b = none) E s1) E s
  done : ∀ (X : Cx), X.prog = P → X.w = w → X.K = K → X.calm = true → ∀ (i : Nat) (pins : List (Addr × Obj)) (s : Shared) (σ : St) (H : Hp) (E : Value → Shared → Prop), Inv X pins σ H s → (∀ b ∈ fp, FpOk X pins H b) → tn i s.heap → J.stop i H →
    wpAny (model P w) X.A (pyNext (.ref it)) (fun r s1 => r = none ∧ Inv X pins σ H s1) E s
  self : ∀ (A : Around) (i : Nat) (s : Shared) (Q : Value → Shared → Prop) (E : Value → Shared → Prop), tn i s.heap → Q (.ref it) s → wpAny (model P w) A (pyIter (.ref it)) Q E s
abbrev TI := St → Hp → (It → Hp → Prop) → Prop
/-- an iterator has come -/
def PIE (X : Cx) (pins : List (Addr × Obj)) (σ : St) (tg : Expr) (R : It → Hp → Prop) (itv : Value) (s2 : Shared) : Prop :=
  ∃ (it : Addr) (fp : List Addr) (tn : Nat → Heap → Prop) (J : It) (H' : Hp), itv = .ref it ∧ Inv X pins σ H' s2 ∧ Turn X.prog X.w X.K tg J fp it tn ∧ tn 0 s2.heap ∧ (∀ b ∈ fp, FpOk X pins H' b) ∧ R J H'
def PI (X : Cx) (tg iter : Expr) (wi : TI) : Prop :=
  ∀ (pins : List (Addr × Obj)) (s : Shared) (σ : St) (H : Hp) (R : It → Hp → Prop), Inv X pins σ H s → wi σ H R →
    wpAny (model X.prog X.w) X.A (eval iter X.env) (fun v s1 => wpAny (model X.prog X.w) X.A (pyIter v) (PIE X pins σ tg R) X.xe s1) X.xe s

/-- the step ahead of the store is nothing for an iterator that keeps no tuple -/
theorem go_of {M : Model} {A : Around} {E : Value → Shared → Prop} {s : Shared} {tg : Expr} {it : Addr} {u : Value} {o : Obj} {n : String} {vs : Array Value} {Q : Unit → Shared → Prop} (ho : s.heap.get? it = some o) (hc : o.cls = .type n) (hd : o.data = .fields vs)
    (hn : ["enumerate", "zip", "dict_itemiterator", "dict_reverseitemiterator", "odict_iterator", "itertools.zip_longest", "itertools.pairwise"].contains n = false) (hQ : Q () s) : wpAny M A (letOwnedTupleGo tg (.ref it) u) Q E s := by
  unfold letOwnedTupleGo
  cases tg <;> first
    | exact wpAny_pure hQ
    | (cases u <;> first
        | exact wpAny_pure hQ
        | (refine wpAny_bind (wpAny_load ho ?_)
           rw [hc, hd]
           show wpAny M A (if (["enumerate", "zip", "dict_itemiterator", "dict_reverseitemiterator", "odict_iterator", "itertools.zip_longest", "itertools.pairwise"].contains n && vs[0]? == some (rawInt _)) = true then _ else _) Q E s
           rw [if_neg (by intro h; rw [hn, Bool.false_and] at h; cases h)]
           exact wpAny_pure hQ))

/-- the list at a, as it stands at each turn (a loop may append to it) -/
def Itl (K : PySem.W.Frag) (a : Addr) : It :=
  ⟨fun i H => ∃ xs x, SqL K H a xs ∧ xs[i]? = some x, fun i H x H' => H' = H ∧ ∀ xs, SqL K H a xs → xs[i]? = some x, fun i H => ∃ xs, SqL K H a xs ∧ xs.length ≤ i⟩
/-- lo, lo + 1, .. (n of them) -/
def Itr (lo : Int) (n : Nat) : It := ⟨fun i _ => i < n, fun i H x H' => H' = H ∧ x = .int (lo + i), fun i _ => n ≤ i⟩
theorem turn_list {P : Program} {w : World} {K : PySem.W.Frag} {tg : Expr} (a it : Addr) : Turn P w K tg (Itl K a) [it] it (fun i h => h.IsListIter it a i) where
  mem := by simp
  obj := fun i h st b hb => by
    have e : b = it := by simpa using hb
    subst e
    obtain ⟨o, e, c, d⟩ := st
    exact ⟨o, e, fun v z => by rw [d] at z; cases z⟩
  keep := fun i h h' st k => st.at fun o e => k it (by simp) o e
  item := by
    intro X hP hw hK hc i pins s σ H E I hf st hg
    subst hP hw hK
    obtain ⟨xs, x, hq, hx⟩ := hg
    obtain ⟨its, rv, p, hz⟩ := I.list hq
    obtain ⟨u, hu, ru⟩ := rv.get hx
    obtain ⟨f0, f1, f2, f3, f4, f5⟩ := hf it (by simp)
    refine wpAny_pyNext_list_item st p.isList (x := u) (by simpa using hu) fun h' st' sb => ?_
    have I1 : Inv X pins σ H { s with heap := h' } := I.turned (t' := s.toks) (fun b o hb e => (sb.2 b hb).trans e) f0 f1 f3 f4 f5
    obtain ⟨o, e, c, d⟩ := id st'
    exact ⟨u, rfl, go_of (s := { s with heap := h' }) e c d (by decide) ⟨x, H, I1, ru, ⟨rfl, fun ys hy => by rw [I.list_inj hy hq]; exact hx⟩, st', fun b hb => (hf b hb).1⟩⟩
  done := by
    intro X hP hw hK hc i pins s σ H E I hf st hg
    subst hP hw hK
    obtain ⟨xs, hq, hx⟩ := hg
    obtain ⟨its, rv, p, hz⟩ := I.list hq
    obtain ⟨f0, f1, f2, f3, f4, f5⟩ := hf it (by simp)
    have hl := rv.length
    exact wpAny_pyNext_list_end (I.ok.hd hc) st p.isList (by simp; omega) fun h' eb => ⟨rfl, I.turned (t' := s.toks) (fun b o hb e => eb b o hb e) f0 f1 f3 f4 f5⟩
  self := fun _ _ _ _ _ st h => wpAny_pyIter_listiter st h
theorem turn_range {P : Program} {w : World} {K : PySem.W.Frag} {tg : Expr} (it : Addr) (lo : Int) (n : Nat) : Turn P w K tg (Itr lo n) [it] it (fun i h => IsRangeIter h it (lo + (i : Nat) * 1) ((n : Int) - (i : Nat)) 1) where
  mem := by simp
  obj := fun i h st b hb => by
    have e : b = it := by simpa using hb
    subst e
    exact ⟨_, st, fun v z => by
      have z' : Data.fields _ = Data.cell v := z
      cases z'⟩
  keep := fun i h h' st k => k it (by simp) _ st
  item := by
    intro X hP hw hK hc i pins s σ H E I hf st hg
    subst hP hw hK
    obtain ⟨f0, f1, f2, f3, f4, f5⟩ := hf it (by simp)
    have W := Walks.range (prog := X.prog) (w := X.w) (I.ok.hd hc) it lo 1 n
    refine W.item i s _ _ hg st fun v h' tk hv st' kk => ?_
    obtain ⟨t, rfl⟩ := hv
    have I1 : Inv X pins σ H { s with heap := h', toks := tk } := I.turned (fun b o hb e => kk b o (by simpa using hb) e) f0 f1 f3 f4 f5
    refine ⟨_, rfl, go_of (s := { s with heap := h', toks := tk }) (n := "range_iterator") st' rfl rfl (by decide) ⟨.int (lo + i), H, I1, ⟨t, ?_⟩, ⟨rfl, rfl⟩, st', fun b hb => (hf b hb).1⟩⟩
    rw [Int.mul_one]
  done := by
    intro X hP hw hK hc i pins s σ H E I hf st hg
    subst hP hw hK
    obtain ⟨f0, f1, f2, f3, f4, f5⟩ := hf it (by simp)
    exact wpAny_pyNext_range_end (I.ok.hd hc) st (by have : n ≤ i := hg; omega) fun h' eb => ⟨rfl, I.turned (t' := s.toks) (fun b o hb e => eb b o hb e) f0 f1 f3 f4 f5⟩
  self := fun _ _ _ _ _ st h => wpAny_pyIter_rangeiter st h
end L2

namespace L2
open PySem PySem.Spec PyProof.Rows
section
variable {X : Cx} {tg : Expr}
def iList (K : PySem.W.Frag) (tl : TE) : TI := fun σ H R => tl σ H fun x H1 => ∃ a, x = .ref a ∧ (∃ xs, SqL K H1 a xs) ∧ R (Itl K a) H1
theorem pi_list {l : Expr} {tl : TE} (hl : PE X l tl) : PI X tg l (iList X.K tl) := by
  intro pins s σ H R I h
  refine thn (hl pins s σ H _ I h) fun v s1 ⟨x, H1, I1, r1, q1⟩ => ?_
  obtain ⟨a, e, ⟨xs, hq⟩, q⟩ := q1
  subst e
  cases r1
  obtain ⟨its, rv, p, hz⟩ := I1.list hq
  refine wpAny_pyIter_list p.isList ?_
  refine ⟨s1.heap.objs.size, [s1.heap.objs.size], _, _, H1, rfl, I1.kept (t' := s1.toks) fun b o e => Heap.get?_push_of_some _ e, turn_list a _, ⟨_, Heap.get?_push_size _ rfl, rfl, rfl⟩, fun b hb => ?_, q⟩
  have e : b = s1.heap.objs.size := by simpa using hb
  subst e
  exact I1.fpOk (Nat.le_refl _) (I1.hok.fresh (Nat.le_refl _))
/-- a range object just made, walked -/
theorem range_it {pins : List (Addr × Obj)} {σ : St} {H : Hp} {s : Shared} {R : It → Hp → Prop} {E : Value → Shared → Prop} {lo hi : Int} {t u v : Tok} {tk : Nat} (I : Inv X pins σ H s) (h1 : -(2 ^ 62) ≤ lo) (h2 : lo < 2 ^ 62) (h3 : -(2 ^ 62) ≤ hi) (h4 : hi < 2 ^ 62)
    (q : R (Itr lo (hi - lo).toNat) H) : wpAny (model X.prog X.w) X.A (pyIter (.ref s.heap.objs.size)) (PIE X pins σ tg R) E { s with heap := s.heap.push { cls := .type "range", data := .fields #[.int lo t, .int hi u, .int 1 v] }, toks := tk } := by
  refine wpAny_pyIter_range (IsRange.new ..) (small_one h1 h2 h3 h4) ?_
  have I1 : Inv X pins σ H { s with heap := s.heap.push { cls := .type "range", data := .fields #[.int lo t, .int hi u, .int 1 v] }, toks := tk } := I.kept fun b o e => Heap.get?_push_of_some _ e
  refine ⟨(s.heap.push { cls := .type "range", data := .fields #[.int lo t, .int hi u, .int 1 v] }).objs.size, [(s.heap.push { cls := .type "range", data := .fields #[.int lo t, .int hi u, .int 1 v] }).objs.size], _, _, H, rfl,
    I1.kept (t' := tk) fun b o e => Heap.get?_push_of_some _ e, turn_range _ lo (hi - lo).toNat, ?_, fun b hb => ?_, q⟩
  · have e1 : lo + ((0 : Nat) : Int) * 1 = lo := by simp
    have e2 : (((hi - lo).toNat : Nat) : Int) - ((0 : Nat) : Int) = Builtin.Range.rangeSize lo hi 1 := by rw [rangeSize_one]; split <;> omega
    show IsRangeIter _ _ (lo + ((0 : Nat) : Int) * 1) ((((hi - lo).toNat : Nat) : Int) - ((0 : Nat) : Int)) 1
    rw [e1, e2]
    exact Heap.get?_push_size _ rfl
  · have e : b = (s.heap.push { cls := .type "range", data := .fields #[.int lo t, .int hi u, .int 1 v] }).objs.size := by simpa using hb
    subst e
    exact I1.fpOk (Nat.le_refl _) (I1.hok.fresh (Nat.le_refl _))
def iRng1 (ta : TA) : TI := fun σ H R => ta σ H fun vs H1 => ∃ j : Int, vs = [.int j] ∧ -(2 ^ 62) ≤ j ∧ j < 2 ^ 62 ∧ R (Itr 0 j.toNat) H1
theorem pi_range1 {a : Expr} {ta : TA} {p pos : Pos} (hg : Gl X "range") (hm : X.mg "range" = none) (ha : PA X [a] ta) (hs : starEach [a] X.env = [(false, eval a X.env)] := by rfl) : PI X tg (.Call (.Name "range" p) [a] [] pos) (iRng1 ta) := by
  intro pins s σ H R I h
  refine Call_ (ld_blt I hg hm boot_range (PyProof.Rows.callWith_type1 (thn (ha pos pins s σ H _ I h) fun us s1 ⟨vs, H1, I1, r1, q1⟩ => ?_) hs rfl))
  obtain ⟨j, e, q1, q2, q⟩ := q1
  subst e
  cases r1 with
  | cons r rr =>
    cases rr
    obtain ⟨t, rfl⟩ := r
    exact call_range_1 (range_it I1 (by omega) (by omega) q1 q2 (by simpa using q))
/-! ### for -/
/-- W: the invariant by the turn and a measure; N: what the body is to reach -/
def tFor (wi : TI) (g : TG) (tb : TS) : TS := fun D σ H => wi σ H fun J H1 => ∃ W : Nat → Nat → St → Hp → Prop, (∃ m, W 0 m σ H1) ∧ ∀ i m σ H, W i m σ H →
  (J.stop i H ∧ D.nx σ H) ∨ (J.go i H ∧ ∃ N : St → Hp → Prop, (∀ σ' H', N σ' H' → ∃ m', m' < m ∧ W (i + 1) m' σ' H') ∧ ∀ x H', J.yld i H x H' → g x σ H' fun σ2 H2 => tb { D with nx := N, ct := N, bk := D.nx } σ2 H2)
/-- the records at fp as they stand -/
def pinsAt (fp : List Addr) (h : Heap) : List (Addr × Obj) := fp.filterMap fun b => (h.get? b).map fun o => (b, o)
theorem mem_pinsAt {fp : List Addr} {h : Heap} {b : Addr} {o : Obj} (hb : b ∈ fp) (e : h.get? b = some o) : (b, o) ∈ pinsAt fp h := List.mem_filterMap.mpr ⟨b, hb, by rw [e]; rfl⟩
theorem of_pinsAt {fp : List Addr} {h : Heap} {p : Addr × Obj} (hp : p ∈ pinsAt fp h) : p.1 ∈ fp ∧ h.get? p.1 = some p.2 := by
  obtain ⟨b, hb, e⟩ := List.mem_filterMap.mp hp
  cases q : h.get? b with
  | none => rw [q] at e; cases e
  | some o =>
    rw [q] at e
    have e' : (b, o) = p := Option.some.inj e
    subst e'
    exact ⟨hb, q⟩
theorem Inv.pinned {pins : List (Addr × Obj)} {σ : St} {H : Hp} {s : Shared} {fp : List Addr} (I : Inv X pins σ H s) (hf : ∀ b ∈ fp, FpOk X pins H b) (ho : ∀ b ∈ fp, ∃ o, s.heap.get? b = some o ∧ ∀ v, o.data ≠ .cell v) : Inv X (pins ++ pinsAt fp s.heap) σ H s :=
  I.pins_of fun p hp => (List.mem_append.mp hp).elim (fun z => I.pin p (List.mem_append_right _ z)) fun z => by
    obtain ⟨hb, e⟩ := of_pinsAt z
    obtain ⟨f0, f1, f2, _⟩ := hf p.1 hb
    obtain ⟨o, e', d⟩ := ho p.1 hb
    rw [e] at e'; cases e'
    exact ⟨e, f0, f1, f2, d⟩
theorem Inv.unpinned {pins pl : List (Addr × Obj)} {σ : St} {H : Hp} {s : Shared} (I : Inv X (pins ++ pl) σ H s) : Inv X pins σ H s := I.pins_of fun p hp => I.pin p (List.mem_append_right _ (List.mem_append_left _ hp))
theorem ps_for {iter : Expr} {body : List Stmt} {wi : TI} {g : TG} {tb : TS} {pos : Pos} (hp : PassesOwn (model X.prog X.w) X.A X.env X.xe) (hc : X.calm = true) (hi : PI X tg iter wi) (hg : PG X tg g) (hb : PSs X body tb)
    (hs : ∀ x, foldedSetIterable iter X.env x = pure x := by intro _; rfl) : PS X (.For tg iter body [] pos) (tFor wi g tb) := by
  intro pins s σ H D I h
  refine wpAny_For (thn (hi pins s σ H _ I h) fun v s1 h1 => thn h1 fun itv s2 h2 => ?_) hs
  obtain ⟨it, fp, tn, J, H2, e, I2, T, st2, f2, W, ⟨m0, w0⟩, turn⟩ := h2
  subst e
  -- what stays true of the iterator's objects through the loop
  have stat : ∀ {H' : Hp}, (∀ b ∈ fp, H' b = none) → ∀ b ∈ fp, FpOk X pins H' b := fun hn b hb => ⟨hn b hb, (f2 b hb).2⟩
  refine codeAny_forLoop_any (fun n s' => ∃ i σ' H', Inv X pins σ' H' s' ∧ tn i s'.heap ∧ (∀ b ∈ fp, H' b = none) ∧ W i n σ' H') ?_ m0 ⟨0, σ, H2, I2, st2, fun b hb => (f2 b hb).1, w0⟩
  rintro n s3 ⟨i, σ3, H3, I3, st3, fr3, w3⟩
  rcases turn i n σ3 H3 w3 with ⟨stop, qn⟩ | ⟨go, N, hN, step⟩
  · refine wpAny_passesOwn hp (thn (T.done X rfl rfl rfl hc i pins s3 σ3 H3 X.xe I3 (stat fr3) st3 stop) fun r s4 ⟨hr, I4⟩ => ?_)
    subst hr
    exact wpAny_execs_nil ⟨σ3, H3, I4, qn⟩
  · refine wpAny_passesOwn hp (thn (T.item X rfl rfl rfl hc i pins s3 σ3 H3 X.xe I3 (stat fr3) st3 go) fun r s4 ⟨u, hr, h4⟩ => ?_)
    subst hr
    refine wpAny_passesOwn hp (thn h4 fun _ s5 ⟨x, H5, I5, r5, y5, st5, fr5⟩ => ?_)
    have I5' := I5.pinned (stat fr5) (T.obj _ _ st5)
    refine wpAny_passesOwn hp (thn (hg _ s5 σ3 H5 x u _ I5' r5 (step x H5 y5)) fun _ s6 ⟨σ6, H6, I6, q6⟩ => ?_)
    refine wpAny_passesOwn hp (thn (hb _ s6 σ6 H6 _ I6 q6) fun f s7 q7 => ?_)
    have again : ∀ {σ7 : St} {H7 : Hp}, Inv X (pins ++ pinsAt fp s5.heap) σ7 H7 s7 → N σ7 H7 → ∃ m, m < n ∧ ∃ i σ' H', Inv X pins σ' H' s7 ∧ tn i s7.heap ∧ (∀ b ∈ fp, H' b = none) ∧ W i m σ' H' := fun {σ7 H7} I7 n7 => by
      obtain ⟨m', hm, w7⟩ := hN σ7 H7 n7
      refine ⟨m', hm, i + 1, σ7, H7, I7.unpinned, T.keep _ _ _ st5 fun b hb o e => (I7.pin (b, o) (List.mem_append_right _ (List.mem_append_right _ (mem_pinsAt hb e)))).1, fun b hb => ?_, w7⟩
      obtain ⟨o, e, d⟩ := T.obj _ _ st5 b hb
      exact (I7.pin (b, o) (List.mem_append_right _ (List.mem_append_right _ (mem_pinsAt hb e)))).2.1
    cases f with
    | next => obtain ⟨σ7, H7, I7, n7⟩ := q7; exact again I7 n7
    | cont => obtain ⟨σ7, H7, I7, n7⟩ := q7; exact again I7 n7
    | brk => obtain ⟨σ7, H7, I7, q7⟩ := q7; exact ⟨σ7, H7, I7.unpinned, q7⟩
    | ret v => obtain ⟨x7, σ7, H7, I7, r7, q7⟩ := q7; exact ⟨x7, σ7, H7, I7.unpinned, r7, q7⟩
end

/-! ### the forms one uses -/
/-- over a list that the body leaves as it is -/
theorem for_list {K : PySem.W.Frag} {a : Addr} {xs : List V} {g : TG} {tb : TS} {D : Ends} {σ : St} {H : Hp} (Pv : Nat → St → Hp → Prop) (h0 : Pv 0 σ H) (hl : ∀ i σ H, i ≤ xs.length → Pv i σ H → SqL K H a xs)
    (hs : ∀ i x σ H, xs[i]? = some x → Pv i σ H → g x σ H fun σ2 H2 => tb { D with nx := Pv (i + 1), ct := Pv (i + 1), bk := D.nx } σ2 H2) (hd : ∀ σ H, Pv xs.length σ H → D.nx σ H) :
    ∃ W : Nat → Nat → St → Hp → Prop, (∃ m, W 0 m σ H) ∧ ∀ i m σ H, W i m σ H →
      ((Itl K a).stop i H ∧ D.nx σ H) ∨ ((Itl K a).go i H ∧ ∃ N : St → Hp → Prop, (∀ σ' H', N σ' H' → ∃ m', m' < m ∧ W (i + 1) m' σ' H') ∧ ∀ x H', (Itl K a).yld i H x H' → g x σ H' fun σ2 H2 => tb { D with nx := N, ct := N, bk := D.nx } σ2 H2) := by
  refine ⟨fun i m σ H => m = xs.length - i ∧ i ≤ xs.length ∧ Pv i σ H, ⟨xs.length, by simp, Nat.zero_le _, h0⟩, ?_⟩
  rintro i m σ H ⟨rfl, hi, p⟩
  have q := hl i σ H hi p
  by_cases hlt : i < xs.length
  · refine .inr ⟨⟨xs, xs[i], q, by simp [hlt]⟩, Pv (i + 1), fun σ' H' p' => ⟨xs.length - (i + 1), by omega, rfl, hlt, p'⟩, fun x H' y => ?_⟩
    obtain ⟨e, y⟩ := y
    subst e
    exact hs i x σ _ (y xs q) p
  · have e : i = xs.length := by omega
    subst e
    exact .inl ⟨⟨xs, q, Nat.le_refl _⟩, hd σ H p⟩
end L2

namespace L2
open PySem PySem.Spec PyProof.Rows

abbrev R2 := V → V → Hp → VK → Prop
/-- a two-place operation on values: f is binaryOp op, inplaceOp op or compareOp op -/
def OpR (X : Cx) (f : Value → Value → Sem Value) (r : R2) : Prop :=
  ∀ (pins : List (Addr × Obj)) (s : Shared) (σ : St) (H : Hp) (x y : V) (v u : Value) (Q : VK), Inv X pins σ H s → RelV x v → RelV y u → r x y H Q →
    wpAny (model X.prog X.w) X.A (f v u) (EP X pins σ Q) X.xe s
/-- a one-place operation -/
def UnR (X : Cx) (f : Value → Sem Value) (r : V → Hp → VK → Prop) : Prop :=
  ∀ (pins : List (Addr × Obj)) (s : Shared) (σ : St) (H : Hp) (x : V) (v : Value) (Q : VK), Inv X pins σ H s → RelV x v → r x H Q →
    wpAny (model X.prog X.w) X.A (f v) (EP X pins σ Q) X.xe s
/-- a call of a value that is known (a builtin, a type) with values -/
def CallR (X : Cx) (f : Value) (r : List V → Hp → VK → Prop) : Prop :=
  ∀ (pins : List (Addr × Obj)) (s : Shared) (σ : St) (H : Hp) (xs : List V) (us : List Value) (Q : VK), Inv X pins σ H s → Vals xs us → r xs H Q →
    wpAny (model X.prog X.w) X.A (call f us) (EP X pins σ Q) X.xe s
/-- a value's truth -/
def TruR (X : Cx) (r : V → Hp → (Bool → Hp → Prop) → Prop) : Prop :=
  ∀ (pins : List (Addr × Obj)) (s : Shared) (σ : St) (H : Hp) (x : V) (v : Value) (Q : Bool → Hp → Prop), Inv X pins σ H s → RelV x v → r x H Q →
    wpAny (model X.prog X.w) X.A (truthy v) (TP X pins σ Q) X.xe s

def tOp (r : R2) (ta tb : TE) : TE := fun σ H Q => ta σ H fun x H1 => tb σ H1 fun y H2 => r x y H2 Q
def tUn (r : V → Hp → VK → Prop) (ta : TE) : TE := fun σ H Q => ta σ H fun x H1 => r x H1 Q
/-- ints in, under C, and a value out -/
def rI (C : Int → Int → Prop) (g : Int → Int → V) : R2 := fun x y H Q => ∃ i j, x = .int i ∧ y = .int j ∧ C i j ∧ Q (g i j) H
def rI0 (g : Int → Int → V) : R2 := fun x y H Q => ∃ i j, x = .int i ∧ y = .int j ∧ Q (g i j) H
def rU (g : Int → V) : V → Hp → VK → Prop := fun x H Q => ∃ i, x = .int i ∧ Q (g i) H

section
variable {X : Cx} {a b c : Expr} {ta tb tc : TE} {pos : Pos}

theorem binT (ha : PE X a ta) (hb : PE X b tb) {pins : List (Addr × Obj)} {s : Shared} {σ : St} {H : Hp} {R : V → V → Hp → Prop} (I : Inv X pins σ H s)
    (h : ta σ H fun x H1 => tb σ H1 fun y H2 => R x y H2) {Q : Value → Shared → Prop} {f : Value → Value → Sem Value}
    (hf : ∀ v u s2 x y H2, Inv X pins σ H2 s2 → RelV x v → RelV y u → R x y H2 → wpAny (model X.prog X.w) X.A (f v u) Q X.xe s2) :
    wpAny (model X.prog X.w) X.A (eval a X.env) (fun v s₁ => wpAny (model X.prog X.w) X.A (eval b X.env) (fun u s₂ => wpAny (model X.prog X.w) X.A (f v u) Q X.xe s₂) X.xe s₁) X.xe s := by
  refine thn (ha pins s σ H _ I h) fun v s1 ⟨x, H1, I1, r1, q1⟩ => ?_
  refine thn (hb pins s1 σ H1 _ I1 q1) fun u s2 ⟨y, H2, I2, r2, q2⟩ => ?_
  exact hf v u s2 x y H2 I2 r1 r2 q2

theorem pe_op {op : Operator} {r : R2} (ho : OpR X (binaryOp op) r) (ha : PE X a ta) (hb : PE X b tb) : PE X (.BinOp a op b pos) (tOp r ta tb) := by
  intro pins s σ H Q I h
  exact wpAny_BinOp (binT ha hb I h fun v u s2 x y H2 I2 rx ry q => ho pins s2 σ H2 x y v u Q I2 rx ry q)
theorem pe_un {op : UnaryOp} {r : V → Hp → VK → Prop} (ho : UnR X (unaryOp op) r) (ha : PE X a ta) : PE X (.UnaryOp op a pos) (tUn r ta) := by
  intro pins s σ H Q I h
  exact UnaryOp_ (thn (ha pins s σ H _ I h) fun v s1 ⟨x, H1, I1, r1, q1⟩ => ho pins s1 σ H1 x v Q I1 r1 q1)
/-! ### ints -/
theorem opI {f : Value → Value → Sem Value} {C : Int → Int → Prop} {g : Int → Int → Int}
    (rule : ∀ (i j : Int) (t u : Tok) (s : Shared) (Q : Value → Shared → Prop) (E : Value → Shared → Prop), C i j → Q (.int (g i j) s.toks) { s with toks := s.toks + 1 } → wpAny (model X.prog X.w) X.A (f (.int i t) (.int j u)) Q E s) :
    OpR X f (rI C fun i j => .int (g i j)) := by
  intro pins s σ H x y v u Q I rx ry h
  obtain ⟨i, j, rfl, rfl, hc, q⟩ := h
  obtain ⟨t, rfl⟩ := rx
  obtain ⟨t', rfl⟩ := ry
  exact rule i j t t' s _ _ hc ⟨.int (g i j), H, I.tok _, ⟨_, rfl⟩, q⟩
theorem opI0 {f : Value → Value → Sem Value} {g : Int → Int → Int}
    (rule : ∀ (i j : Int) (t u : Tok) (s : Shared) (Q : Value → Shared → Prop) (E : Value → Shared → Prop), Q (.int (g i j) s.toks) { s with toks := s.toks + 1 } → wpAny (model X.prog X.w) X.A (f (.int i t) (.int j u)) Q E s) :
    OpR X f (rI0 fun i j => .int (g i j)) := by
  intro pins s σ H x y v u Q I rx ry h
  obtain ⟨i, j, rfl, rfl, q⟩ := h
  obtain ⟨t, rfl⟩ := rx
  obtain ⟨t', rfl⟩ := ry
  exact rule i j t t' s _ _ ⟨.int (g i j), H, I.tok _, ⟨_, rfl⟩, q⟩
theorem opB0 {f : Value → Value → Sem Value} {g : Int → Int → Bool}
    (rule : ∀ (i j : Int) (t u : Tok) (s : Shared) (Q : Value → Shared → Prop) (E : Value → Shared → Prop), Q (.bool (g i j)) s → wpAny (model X.prog X.w) X.A (f (.int i t) (.int j u)) Q E s) :
    OpR X f (rI0 fun i j => .bl (g i j)) := by
  intro pins s σ H x y v u Q I rx ry h
  obtain ⟨i, j, rfl, rfl, q⟩ := h
  obtain ⟨t, rfl⟩ := rx
  obtain ⟨t', rfl⟩ := ry
  exact rule i j t t' s _ _ ⟨.bl (g i j), H, I, rfl, q⟩

def CPow (i j : Int) : Prop := 0 ≤ j ∧ j ≤ 1000000 ∧ i.natAbs < 2 ^ 64
def CMul (i j : Int) : Prop := (-(2 ^ 64) < i ∧ i < 2 ^ 64) ∨ (-(2 ^ 64) < j ∧ j < 2 ^ 64)
theorem CMul.ok {i j : Int} (h : CMul i j) : IntMulOk i j := by
  rcases h with ⟨h1, h2⟩ | ⟨h1, h2⟩
  · exact .of_left (intBits_le_64 h1 h2)
  · exact .of_right (intBits_le_64 h1 h2)
theorem two_pow_nn (k : Nat) : (0 : Int) ≤ 2 ^ k := by
  rw [two_pow_cast]
  exact Int.natCast_nonneg _

theorem op_add : OpR X (binaryOp .Add) (rI0 fun i j => .int (i + j)) := opI0 fun _ _ _ _ _ _ _ q => add_int q
theorem op_sub : OpR X (binaryOp .Sub) (rI0 fun i j => .int (i - j)) := opI0 fun _ _ _ _ _ _ _ q => sub_int q
theorem op_mul : OpR X (binaryOp .Mult) (rI CMul fun i j => .int (i * j)) := opI fun _ _ _ _ _ _ _ hc q => mul_int q hc.ok
/-- % by a positive divisor of any size -/
theorem op_mod : OpR X (binaryOp .Mod) (rI (fun _ j => 0 < j) fun i j => .int (i % j)) := opI fun i j _ _ _ _ _ hc q => by
  have h1 : (0 : Int) < j := hc
  exact mod_int' (by omega) (by rw [Int.fmod_eq_emod_of_nonneg i (by omega)]; exact q)
theorem op_pow : OpR X (binaryOp .Pow) (rI CPow fun i j => .int (i ^ j.toNat)) := opI fun _ _ _ _ _ _ _ hc q => pow_int_small hc.1 hc.2.1 hc.2.2 q
theorem op_shl : OpR X (binaryOp .LShift) (rI CPow fun i j => .int (i * 2 ^ j.toNat)) := opI fun _ _ _ _ _ _ _ hc q => lshift_int_small hc.1 hc.2.1 hc.2.2 q
theorem op_shr : OpR X (binaryOp .RShift) (rI (fun _ j => 0 ≤ j) fun i j => .int (i / 2 ^ j.toNat)) := opI fun i j _ _ _ _ _ hc q =>
  rshift_int hc (by rw [Int.fdiv_eq_ediv_of_nonneg i (two_pow_nn _)]; exact q)
theorem op_xor : OpR X (binaryOp .BitXor) (rI0 fun i j => .int (Builtin.bitXor i j)) := opI0 fun _ _ _ _ _ _ _ q => xor_int q

theorem unI {f : Value → Sem Value} {g : Int → Int}
    (rule : ∀ (i : Int) (t : Tok) (s : Shared) (Q : Value → Shared → Prop) (E : Value → Shared → Prop), Q (.int (g i) s.toks) { s with toks := s.toks + 1 } → wpAny (model X.prog X.w) X.A (f (.int i t)) Q E s) :
    UnR X f (rU fun i => .int (g i)) := by
  intro pins s σ H x v Q I rx h
  obtain ⟨i, rfl, q⟩ := h
  obtain ⟨t, rfl⟩ := rx
  exact rule i t s _ _ ⟨.int (g i), H, I.tok _, ⟨_, rfl⟩, q⟩
theorem un_neg : UnR X (unaryOp .USub) (rU fun i => .int (-i)) := unI fun _ _ _ _ _ q => neg_int q
end

/-! ### comparisons -/
/-- the scalars that == tells apart as data does -/
def scal : V → V → Bool
  | .non, .non => true | .non, .int _ => true | .int _, .non => true | .non, .bl _ => true | .bl _, .non => true | .non, .str _ => true | .str _, .non => true
  | .int _, .int _ => true | .bl _, .bl _ => true | .str _, .str _ => true | .byt _, .byt _ => true
  | .int _, .str _ => true | .str _, .int _ => true | .bl _, .str _ => true | .str _, .bl _ => true
  | _, _ => false
def rEq : R2 := fun x y H Q => scal x y = true ∧ Q (.bl (decide (x = y))) H
def rNe : R2 := fun x y H Q => scal x y = true ∧ Q (.bl (!decide (x = y))) H

theorem dec_int {i j : Int} : decide (V.int i = V.int j) = (i == j) := by
  rw [Bool.eq_iff_iff]
  simp
theorem dec_bl {i j : Bool} : decide (V.bl i = V.bl j) = (i == j) := by
  rw [Bool.eq_iff_iff]
  simp
theorem dec_str {i j : Str} : decide (V.str i = V.str j) = (i == j) := by
  rw [Bool.eq_iff_iff]
  simp
theorem dec_byt {i j : Array UInt8} : decide (V.byt i = V.byt j) = (i.toList == j.toList) := by
  rw [Bool.eq_iff_iff]
  cases i
  cases j
  simp

section
variable {X : Cx} {a b c : Expr} {ta tb tc : TE} {pos : Pos}
theorem fin_bl {pins : List (Addr × Obj)} {σ : St} {H : Hp} {s : Shared} {Q : VK} {k k' : Bool} (I : Inv X pins σ H s) (q : Q (.bl k) H) (e : k = k') : EP X pins σ Q (.bool k') s := by
  subst e
  exact ⟨.bl k, H, I, rfl, q⟩
theorem op_eq : OpR X (compareOp .Eq) rEq := by
  intro pins s σ H x y v u Q I rx ry h
  obtain ⟨hs, q⟩ := h
  cases x with
  | non =>
    cases rx
    cases y with
    | non => cases ry; exact PySem.EqNone.eq_none_none (fin_bl I q (by simp))
    | bl j => cases ry; exact PySem.EqNone.eq_none_bool (fin_bl I q (by simp))
    | int j => obtain ⟨t', rfl⟩ := ry; exact PySem.EqNone.eq_none_int (fin_bl I q (by simp))
    | str j => obtain ⟨t', rfl⟩ := ry; exact PySem.EqNone.eq_none_str (fin_bl I q (by simp))
    | _ => exact absurd (show false = true from hs) Bool.false_ne_true
  | bl i =>
    cases rx
    cases y with
    | non => cases ry; exact PySem.EqNone.eq_bool_none (fin_bl I q (by simp))
    | bl j => cases ry; exact eq_bool (fin_bl I q dec_bl)
    | str j => obtain ⟨t', rfl⟩ := ry; exact PySem.EqMixed.eq_bool_str (fin_bl I q (by simp))
    | _ => exact absurd (show false = true from hs) Bool.false_ne_true
  | int i =>
    obtain ⟨t, rfl⟩ := rx
    cases y with
    | non => cases ry; exact PySem.EqNone.eq_int_none (fin_bl I q (by simp))
    | int j => obtain ⟨t', rfl⟩ := ry; exact eq_int (fin_bl I q dec_int)
    | str j => obtain ⟨t', rfl⟩ := ry; exact PySem.EqMixed.eq_int_str (fin_bl I q (by simp))
    | _ => exact absurd (show false = true from hs) Bool.false_ne_true
  | str i =>
    obtain ⟨t, rfl⟩ := rx
    cases y with
    | non => cases ry; exact PySem.EqNone.eq_str_none (fin_bl I q (by simp))
    | bl j => cases ry; exact PySem.EqMixed.eq_str_bool (fin_bl I q (by simp))
    | int j => obtain ⟨t', rfl⟩ := ry; exact PySem.EqMixed.eq_str_int (fin_bl I q (by simp))
    | str j => obtain ⟨t', rfl⟩ := ry; exact eq_str (fin_bl I q dec_str)
    | _ => exact absurd (show false = true from hs) Bool.false_ne_true
  | byt i =>
    obtain ⟨t, rfl⟩ := rx
    cases y with
    | byt j => obtain ⟨t', rfl⟩ := ry; exact PySem.W.eq_bytes (fin_bl I q dec_byt)
    | _ => exact absurd (show false = true from hs) Bool.false_ne_true
  | _ => cases y <;> exact absurd (show false = true from hs) Bool.false_ne_true
theorem op_ne : OpR X (compareOp .NotEq) rNe := by
  intro pins s σ H x y v u Q I rx ry h
  obtain ⟨hs, q⟩ := h
  cases x with
  | non =>
    cases rx
    cases y with
    | non => cases ry; exact PySem.EqNone.ne_none_none (fin_bl I q (by simp))
    | bl j => cases ry; exact PySem.EqNone.ne_none_bool (fin_bl I q (by simp))
    | int j => obtain ⟨t', rfl⟩ := ry; exact PySem.EqNone.ne_none_int (fin_bl I q (by simp))
    | str j => obtain ⟨t', rfl⟩ := ry; exact PySem.EqNone.ne_none_str (fin_bl I q (by simp))
    | _ => exact absurd (show false = true from hs) Bool.false_ne_true
  | bl i =>
    cases rx
    cases y with
    | non => cases ry; exact PySem.EqNone.ne_bool_none (fin_bl I q (by simp))
    | bl j => cases ry; exact ne_bool (fin_bl I q (congrArg not dec_bl))
    | str j => obtain ⟨t', rfl⟩ := ry; exact PySem.EqMixed.ne_bool_str (fin_bl I q (by simp))
    | _ => exact absurd (show false = true from hs) Bool.false_ne_true
  | int i =>
    obtain ⟨t, rfl⟩ := rx
    cases y with
    | non => cases ry; exact PySem.EqNone.ne_int_none (fin_bl I q (by simp))
    | int j => obtain ⟨t', rfl⟩ := ry; exact ne_int (fin_bl I q (congrArg not dec_int))
    | str j => obtain ⟨t', rfl⟩ := ry; exact PySem.EqMixed.ne_int_str (fin_bl I q (by simp))
    | _ => exact absurd (show false = true from hs) Bool.false_ne_true
  | str i =>
    obtain ⟨t, rfl⟩ := rx
    cases y with
    | non => cases ry; exact PySem.EqNone.ne_str_none (fin_bl I q (by simp))
    | bl j => cases ry; exact PySem.EqMixed.ne_str_bool (fin_bl I q (by simp))
    | int j => obtain ⟨t', rfl⟩ := ry; exact PySem.EqMixed.ne_str_int (fin_bl I q (by simp))
    | str j => obtain ⟨t', rfl⟩ := ry; exact ne_str (fin_bl I q (congrArg not dec_str))
    | _ => exact absurd (show false = true from hs) Bool.false_ne_true
  | byt i =>
    obtain ⟨t, rfl⟩ := rx
    cases y with
    | byt j => obtain ⟨t', rfl⟩ := ry; exact PySem.W.ne_bytes (fin_bl I q (congrArg not dec_byt))
    | _ => exact absurd (show false = true from hs) Bool.false_ne_true
  | _ => cases y <;> exact absurd (show false = true from hs) Bool.false_ne_true

theorem op_lt : OpR X (compareOp .Lt) (rI0 fun i j => .bl (decide (i < j))) := opB0 fun _ _ _ _ _ _ _ q => lt_int q
theorem op_le : OpR X (compareOp .LtE) (rI0 fun i j => .bl (decide (i ≤ j))) := opB0 fun _ _ _ _ _ _ _ q => le_int q
theorem op_gt : OpR X (compareOp .Gt) (rI0 fun i j => .bl (decide (j < i))) := opB0 fun _ _ _ _ _ _ _ q => gt_int q
theorem op_ge : OpR X (compareOp .GtE) (rI0 fun i j => .bl (decide (j ≤ i))) := opB0 fun _ _ _ _ _ _ _ q => ge_int q
/-- is None, is not None: the right side a value none -/
theorem op_isN : OpR X (compareOp .Is) (fun x y H Q => y = .non ∧ Q (.bl (decide (x = .non))) H) := by
  intro pins s σ H x y v u Q I rx ry h
  obtain ⟨rfl, q⟩ := h
  cases ry
  refine is_none_gen (fin_bl I q ?_)
  cases x <;> first
    | (cases rx; rfl)
    | (obtain ⟨t, rfl⟩ := rx; rfl)
theorem op_notN : OpR X (compareOp .IsNot) (fun x y H Q => y = .non ∧ Q (.bl (!decide (x = .non))) H) := by
  intro pins s σ H x y v u Q I rx ry h
  obtain ⟨rfl, q⟩ := h
  cases ry
  refine isnot_none_gen (fin_bl I q ?_)
  cases x <;> first
    | (cases rx; rfl)
    | (obtain ⟨t, rfl⟩ := rx; rfl)

/-- two rules for one operation: by cases -/
theorem OpR.or {f : Value → Value → Sem Value} {r r' : R2} (h : OpR X f r) (h' : OpR X f r') : OpR X f (fun x y H Q => r x y H Q ∨ r' x y H Q) := by
  intro pins s σ H x y v u Q I rx ry q
  rcases q with q | q
  · exact h pins s σ H x y v u Q I rx ry q
  · exact h' pins s σ H x y v u Q I rx ry q

theorem nomark (b : Expr) {op : CmpOp} (h : op ≠ .In := by decide) (h2 : op ≠ .NotIn := by decide) : behindInMarks op b = false := by
  have e1 : (op == CmpOp.In) = false := by cases op <;> first | rfl | exact absurd rfl h
  have e2 : (op == CmpOp.NotIn) = false := by cases op <;> first | rfl | exact absurd rfl h2
  cases b <;> simp [behindInMarks, e1, e2]
/-- a comparison as a value; hm: nomark b, or (for in, not in) by with_unfolding_all rfl -/
theorem pe_cmpR {op : CmpOp} {r : R2} (ho : OpR X (compareOp op) r) (ha : PE X a ta) (hb : PE X b tb) (hm : behindInMarks op b = false) : PE X (.Compare a [op] [b] pos) (tOp r ta tb) := by
  intro pins s σ H Q I h
  exact wpAny_Compare1 (binT ha hb I h fun v u s2 x y H2 I2 rx ry q => ho pins s2 σ H2 x y v u Q I2 rx ry q) hm
/-- a reading of a value as a test -/
def tTest (t : TE) : TT := fun σ H Q => t σ H fun x H' => ∃ k, x = .bl k ∧ Q k H'
theorem pt_cmpR {op : CmpOp} {r : R2} (ho : OpR X (compareOp op) r) (ha : PE X a ta) (hb : PE X b tb) (hm : behindInMarks op b = false) : PT X (.Compare a [op] [b] pos) (tTest (tOp r ta tb)) := by
  intro pins s σ H Q I h
  refine wpAny_isTrue_Compare1 (thn (ha pins s σ H _ I h) fun v s1 ⟨x, H1, I1, r1, q1⟩ => thn (hb pins s1 σ H1 _ I1 q1) fun u s2 ⟨y, H2, I2, r2, q2⟩ =>
    thn (ho pins s2 σ H2 x y v u _ I2 r1 r2 q2) fun c s3 ⟨z, H3, I3, r3, k, e, q3⟩ => ?_) hm
  subst e
  cases r3
  exact wpAny_truthy_bool ⟨H3, I3, q3⟩
/-- a op1 b op2 c -/
def tChain (r r' : R2) (ta tb tc : TE) : TE := fun σ H Q => ta σ H fun x H1 => tb σ H1 fun y H2 => r x y H2 fun z H3 => ∃ k, z = .bl k ∧
  (if k = true then tc σ H3 fun w' H4 => r' y w' H4 Q else Q (.bl false) H3)
theorem pe_chain {op op' : CmpOp} {r r' : R2} (ho : OpR X (compareOp op) r) (ho' : OpR X (compareOp op') r') (ha : PE X a ta) (hb : PE X b tb) (hc : PE X c tc)
    (hm : lastMarks [op, op'] [b, c] = false := by with_unfolding_all rfl) : PE X (.Compare a [op, op'] [b, c] pos) (tChain r r' ta tb tc) := by
  intro pins s σ H Q I h
  refine Compare_chain (thn (ha pins s σ H _ I h) fun v s1 ⟨x, H1, I1, r1, q1⟩ => chain_link (thn (hb pins s1 σ H1 _ I1 q1) fun u s2 ⟨y, H2, I2, r2, q2⟩ =>
    thn (ho pins s2 σ H2 x y v u _ I2 r1 r2 q2) fun d s3 ⟨z, H3, I3, r3, k, e, q3⟩ => ?_)) hm
  subst e
  cases r3
  refine wpAny_truthy_bool ?_
  cases k with
  | false => exact ite_ff ⟨.bl false, H3, I3, rfl, q3⟩
  | true => exact ite_tt (chain_last (thn (hc pins s3 σ H3 _ I3 q3) fun w' s4 ⟨z', H4, I4, r4, q4⟩ => ho' pins s4 σ H4 y z' u w' Q I4 r2 r4 q4))
/-! ### truth -/
/-- a value's truth by the abstract heap -/
def TruV (K : PySem.W.Frag) (x : V) (H : Hp) (k : Bool) : Prop :=
  match x with
  | .non => k = false
  | .bl b => k = b
  | .int i => k = (i != 0)
  | .str y => y.length ≤ sizeLine ∧ k = ((y.length : Int) != 0)
  | .byt y => y.size ≤ sizeLine ∧ k = ((y.size : Int) != 0)
  | .ref p => (∃ xs, SqL K H p xs ∧ k = !xs.isEmpty) ∨ (∃ xs, SqT K H p xs ∧ k = !xs.isEmpty) ∨ ∃ kvs, H p = some (.dK kvs) ∧ k = !kvs.isEmpty
  | _ => False
theorem isEmpty_kv {κ : Type} {kvs : List (κ × V)} {vs : List (κ × Value)} (r : KV kvs vs) : (!vs.isEmpty) = !kvs.isEmpty := by
  cases r <;> rfl
theorem isEmpty_of {xs : List V} {its : List Value} (r : Vals xs its) : (!its.toArray.isEmpty) = !xs.isEmpty := by
  cases r <;> simp
theorem line63 : (sizeLine : Nat) < 2 ^ 63 := by rw [sizeLine_eq]; decide
theorem tru_ok : TruR X (fun x H Q => ∃ k, TruV X.K x H k ∧ Q k H) := by
  intro pins s σ H x v Q I rx h
  obtain ⟨k, e, q⟩ := h
  have hl := line63
  have hs : sizeLine = 16777216 := sizeLine_eq
  cases x with
  | non =>
    cases rx
    have e' : k = false := e
    subst e'
    exact truthy_none ⟨H, I, q⟩
  | bl b =>
    cases rx
    have e' : k = b := e
    subst e'
    exact wpAny_truthy_bool ⟨H, I, q⟩
  | int i =>
    obtain ⟨t, rfl⟩ := rx
    have e' : k = (i != 0) := e
    subst e'
    exact PySem.P.truthy_int ⟨H, I, q⟩
  | str y =>
    obtain ⟨t, rfl⟩ := rx
    obtain ⟨hy, e'⟩ : y.length ≤ sizeLine ∧ k = ((y.length : Int) != 0) := e
    subst e'
    exact PySem.P.truthy_str (by omega) ⟨H, I.tok _, q⟩
  | byt y =>
    obtain ⟨t, rfl⟩ := rx
    obtain ⟨hy, e'⟩ : y.size ≤ sizeLine ∧ k = ((y.size : Int) != 0) := e
    subst e'
    exact PySem.W.truthy_bytes (by omega) ⟨H, I.tok _, q⟩
  | ref p =>
    cases rx
    have e' : (∃ xs, SqL X.K H p xs ∧ k = !xs.isEmpty) ∨ (∃ xs, SqT X.K H p xs ∧ k = !xs.isEmpty) ∨ ∃ kvs, H p = some (.dK kvs) ∧ k = !kvs.isEmpty := e
    rcases e' with ⟨xs, hx, e'⟩ | ⟨xs, hx, e'⟩ | ⟨kvs, hx, e'⟩
    · subst e'
      obtain ⟨its, r, pl, hz⟩ := I.list hx
      have hlen := r.length
      exact wpAny_truthy_list pl.isList (by simp only [List.size_toArray]; omega) ⟨H, I.tok _, by rw [isEmpty_of r]; exact q⟩
    · subst e'
      obtain ⟨its, r, pl, hz⟩ := I.tuple hx
      have hlen := r.length
      exact truthy_tuple pl (by simp only [List.size_toArray]; omega) ⟨H, I.tok _, by rw [isEmpty_of r]; exact q⟩
    · subst e'
      obtain ⟨hz, hS, vs, r, m⟩ : kvs.length ≤ sizeLine ∧ (p == sysModules) = false ∧ ∃ vs, KV kvs vs ∧ s.heap.DictOf (mixKind X.prog X.w) p vs := I.hok p _ hx
      have hlen : kvs.length = vs.length := Paired.length r
      exact wpAny_truthy_dict hS m (by omega) ⟨H, I.tok _, by rw [isEmpty_kv r]; exact q⟩
  | _ => exact (show False from e).elim
/-- any expression whose test is its value's truth (a name, a call, a subscript, a field ..: he by fun _ => rfl) -/
theorem pt_truth (ha : PE X a ta) (he : ∀ whole, isTrue a X.env whole = (do let v ← whole; standAt a.pos; holding [v] (truthy v))) :
    PT X a (fun σ H Q => ta σ H fun x H' => ∃ k, TruV X.K x H' k ∧ Q k H') := by
  intro pins s σ H Q I h
  exact isTrue_plain (thn (ha pins s σ H _ I h) fun v s1 ⟨x, H1, I1, r1, q1⟩ => tru_ok pins s1 σ H1 x v Q I1 r1 q1) (he _)

/-! ### scalar builtins, by CallR -/
theorem vals1 {x : V} {us : List Value} (r : Vals [x] us) : ∃ u, us = [u] ∧ RelV x u := by
  cases r with
  | cons r1 r2 => cases r2; exact ⟨_, rfl, r1⟩
theorem vals2 {x y : V} {us : List Value} (r : Vals [x, y] us) : ∃ u w', us = [u, w'] ∧ RelV x u ∧ RelV y w' := by
  cases r with
  | cons r1 r2 =>
    cases r2 with
    | cons r3 r4 => cases r4; exact ⟨_, _, rfl, r1, r3⟩
theorem call_abs : CallR X (.builtin "abs") (fun xs H Q => ∃ i, xs = [.int i] ∧ Q (.int (if i < 0 then -i else i)) H) := by
  intro pins s σ H xs us Q I r h
  obtain ⟨i, rfl, q⟩ := h
  obtain ⟨u, rfl, t, rfl⟩ := vals1 r
  exact call_abs_int fun u tk => ⟨.int (if i < 0 then -i else i), H, I.tok _, ⟨_, rfl⟩, q⟩
theorem call_min2 (hc : X.calm = true) : CallR X (.builtin "min") (fun xs H Q => ∃ i j, xs = [.int i, .int j] ∧ Q (.int (if j < i then j else i)) H) := by
  intro pins s σ H xs us Q I r h
  obtain ⟨i, j, rfl, q⟩ := h
  obtain ⟨u, w', rfl, ⟨t, rfl⟩, ⟨t', rfl⟩⟩ := vals2 r
  refine min_two_ints (I.ok.hd hc) fun h' tk k => ⟨_, H, I.kept k, ?_, q⟩
  by_cases hj : j < i
  · rw [if_pos hj, if_pos hj]; exact ⟨_, rfl⟩
  · rw [if_neg hj, if_neg hj]; exact ⟨_, rfl⟩
theorem call_int1 : CallR X (.type "int") (fun xs H Q => (∃ i, xs = [.int i] ∧ Q (.int i) H) ∨ ∃ k, xs = [.bl k] ∧ Q (.int (if k then 1 else 0)) H) := by
  intro pins s σ H xs us Q I r h
  rcases h with ⟨i, rfl, q⟩ | ⟨k, rfl, q⟩
  · obtain ⟨u, rfl, t, rfl⟩ := vals1 r
    exact call_int_int ⟨.int i, H, I, ⟨_, rfl⟩, q⟩
  · obtain ⟨u, rfl, r1⟩ := vals1 r
    cases r1
    exact call_int_bool ⟨.int (if k then 1 else 0), H, I.tok _, ⟨_, rfl⟩, q⟩
end
end L2

namespace L2
open PySem PySem.Spec PyProof.Rows

/-! ### an instance, its attributes a map -/
structure ObjM (h : Heap) (x dx C : Addr) (mA : Str → Option Value) : Prop where
  obj : h.get? x = some (PySem.W.instObj C dx)
  ns : h.Ns1 dx mA
  ne : dx ≠ x

theorem lookIn_ns {h : Heap} {dx : Addr} {mA : Str → Option Value} (n : h.Ns1 dx mA) : ∃ od, h.get? dx = some od ∧ ∀ name, PySem.W.lookIn name od = some (mA name) := by
  obtain ⟨o, es, ep, ho, hd, hk, _, hm⟩ := n
  refine ⟨o, ho, fun name => ?_⟩
  have e := hm name
  unfold nsFind findBy at e
  rw [← Array.find?_toList] at e
  unfold PySem.W.lookIn
  rw [hd]
  dsimp only
  split
  · rename_i y q
    rw [q] at e
    exact congrArg some e
  · rename_i q
    rw [q] at e
    have a : es.toList.any (·.refKey) = false := by
      rw [List.any_eq_false]
      intro y hy
      obtain ⟨z, t, hkey⟩ := hk y (Array.mem_toList_iff.mp hy)
      simp [DictEntry.refKey, hkey]
    have a' : ¬ es.toList.any (·.refKey) = true := by rw [a]; exact Bool.false_ne_true
    rw [if_neg a']
    exact congrArg some e

theorem ObjM.look {h : Heap} {x dx C : Addr} {mA : Str → Option Value} (I : ObjM h x dx C mA) : ∃ od, PySem.W.InstAt h x (PySem.W.instObj C dx) C (some od) ∧ ∀ name, PySem.W.lookIn name od = some (mA name) :=
  let ⟨od, ho, hl⟩ := lookIn_ns I.ns
  ⟨od, ⟨I.obj, rfl, rfl, ho⟩, hl⟩

section
variable {prog : Program} {w : World} {A : Around} {E : Value → Shared → Prop} {s : Shared} {K : PySem.W.Frag} {x dx C f : Addr} {mA : Str → Option Value} {name : Str} {v : Value}

theorem get_map {expr : Bool} {Q : Value → Shared → Prop} (X : K.In s.heap) (I : ObjM s.heap x dx C mA) (hg : PySem.W.plainGet K C name = true) (hh : PySem.W.hasDictIn K C = true)
    (ha : PySem.W.findIn K (.ref C) name = some none) (hv : mA name = some v) (hv' : PySem.W.handedIn v = true) (h : Q v { s with toks := s.toks + 1 }) :
    wpAny (model prog w) A (getAttr (.ref x) name expr) Q E s := by
  obtain ⟨od, J, hl⟩ := I.look
  exact PySem.W.get_value X J (PySem.W.plainGet_of hg).1 (PySem.W.findObj_own hh ha rfl (by rw [hl, hv])) hv' h

end

theorem RelO.some_of {v : V} {o : Option Value} (r : RelO (some v) o) : ∃ u, o = some u ∧ RelV v u := by
  cases o with
  | none => exact (show False from r).elim
  | some u => exact ⟨u, rfl, r⟩
section
variable {P : Program} {w : World} {H H' : Hp} {h h' : Heap} {a C dx : Addr} {fs fs' : List (Str × V)}
theorem ins_get (hok : HOk P w H h) (e : H a = some (.ins C dx fs)) : ∃ mA, ObjM h a dx C mA ∧ (∀ f, RelO (fs.lookup f) (mA f)) ∧ PySem.Within mA (fs.map (·.1)) ∧ fs.length ≤ 1000 ∧ H dx = some (.own a) := by
  obtain ⟨d, z, ne, ob, mA, n, r, q⟩ := (show ObjOk P w H h a (.ins C dx fs) from hok a _ e)
  exact ⟨mA, ⟨ob, n, ne⟩, r, q, z, d⟩
end

/-! ### what of the text a class must have -/
structure Cls (K : PySem.W.Frag) (C : Addr) : Prop where
  pg : PySem.W.plainGet K C Str.empty = true
  hd : PySem.W.hasDictIn K C = true
  po : PySem.W.plainOver K C = true
  sa : PySem.W.findIn K (.ref C) "__setattr__" = some (some (.builtin "object.__setattr__"))
theorem Cls.get {K : PySem.W.Frag} {C : Addr} (c : Cls K C) (f : Str) : PySem.W.plainGet K C f = true := c.pg
section
variable {X : Cx} {pins : List (Addr × Obj)} {σ : St} {H : Hp} {s : Shared} {a C dx : Addr} {fs : List (Str × V)} {f : Str} {v : V} {A : Around} {E : Value → Shared → Prop}

/-- a new instance, tracked, without attributes -/
theorem Inv.made (I : Inv X pins σ H s) : Inv X pins σ (upd (upd H s.heap.objs.size (.own (s.heap.objs.size + 1))) (s.heap.objs.size + 1) (.ins C s.heap.objs.size []))
    { s with heap := (s.heap.push PySem.W.emptyDict).push (PySem.W.instObj C s.heap.objs.size) } := by
  have e1 : (s.heap.push PySem.W.emptyDict).get? s.heap.objs.size = some PySem.W.emptyDict := Heap.get?_push_size s.heap rfl
  have e2 : ((s.heap.push PySem.W.emptyDict).push (PySem.W.instObj C s.heap.objs.size)).get? (s.heap.objs.size + 1) = some (PySem.W.instObj C s.heap.objs.size) := by
    have := Heap.get?_push_size (s.heap.push PySem.W.emptyDict) (o := PySem.W.instObj C s.heap.objs.size) rfl
    rwa [Heap.size_push] at this
  have e3 : (s.heap.push PySem.W.emptyDict).Ns s.heap.objs.size (fun _ => none) := ⟨PySem.W.emptyDict, #[], _, e1, rfl, (fun e he => absurd he (by simp)), fun _ => rfl⟩
  have I1 := I.laid (a := s.heap.objs.size) (o := .own (s.heap.objs.size + 1)) (h' := s.heap.push PySem.W.emptyDict) (t' := s.toks) (fun b u q => Heap.get?_push_of_some _ q) (Nat.le_refl _) ⟨_, e1⟩
  refine I1.laid (a := s.heap.objs.size + 1) (o := .ins C s.heap.objs.size []) (t' := s.toks) (fun b u q => Heap.get?_push_of_some _ q) (Nat.le_of_eq (Heap.size_push _ _)) ?_
  have ne : s.heap.objs.size ≠ s.heap.objs.size + 1 := Nat.ne_of_lt (Nat.lt_succ_self _)
  refine ⟨by rw [upd_ne ne, upd_same], Nat.zero_le _, ne, e2, fun _ => none, (Heap.Ns1.of_empty e3).at fun o q => Heap.get?_push_of_some _ q, fun _ => True.intro, fun y hy => absurd rfl hy⟩

end

section
variable {X : Cx} {o e value : Expr} {f : Str} {pos pos' tpos : Pos} {ta tv : TE}
end

/-! ### isinstance -/
section
variable {X : Cx} {pins : List (Addr × Obj)} {σ : St} {H : Hp} {s : Shared} {A : Around} {E : Value → Shared → Prop} {Q : Value → Shared → Prop} {c : Value} {b : Bool}
/-- the type of a value, as the fragment's deciders take it; for an instance its class -/
inductive TyOf (K : PySem.W.Frag) (H : Hp) : V → Value → Prop where
  | non : TyOf K H .non (.type "NoneType")
  | bl (x : Bool) : TyOf K H (.bl x) (.type "bool")
  | int (i : Int) : TyOf K H (.int i) (.type "int")
  | str (x : Str) : TyOf K H (.str x) (.type "str")
  | flt (x : UInt64) : TyOf K H (.flt x) (.type "float")
  | lst {a : Addr} {xs : List V} (e : H a = some (.lst xs)) : TyOf K H (.ref a) (.type "list")
  | frz {a : Addr} {o : Obj} {xs : List V} (e : H a = some (.frz o (.lst xs))) : TyOf K H (.ref a) (.type "list")
  | tup {a : Addr} {xs : List V} (e : H a = some (.tup xs)) : TyOf K H (.ref a) (.type "tuple")
  | dK {a : Addr} {kvs : List (Key × V)} (e : H a = some (.dK kvs)) : TyOf K H (.ref a) (.type "dict")
  | dT {a : Addr} {kvs : List (List Key × V)} (e : H a = some (.dT kvs)) : TyOf K H (.ref a) (.type "dict")
  | ins {a C dx : Addr} {fs : List (Str × V)} (e : H a = some (.ins C dx fs)) (cl : Cls K C) (ha : PySem.W.findIn K (.ref C) "__class__" = some (some (.builtin "object.__class__")))
      (hn : PySem.W.specialIn K (.builtin "object.__class__") "__get__" = some (some (.builtin "getset_descriptor.__get__"))) (htk : PySem.W.takesIn K (.builtin "object.__class__") = some true)
      (hm : PySem.W.mroIn K C (.type "object") = some true) : TyOf K H (.ref a) (.ref C)
/-- isinstance(x, c) for one class c, a built-in or an own one: kitOne's answer -/
theorem isinst_ok {x : V} {u t : Value} (I : Inv X pins σ H s) (rx : RelV x u) (ty : TyOf X.K H x t) (e : PySem.W.kitOne X.K t c = some b) (h : ∀ tk, Q (.bool b) { s with toks := tk }) :
    wpAny (model X.prog X.w) A (call (.builtin "isinstance") [u, c]) Q E s := by
  cases ty with
  | non => cases (show u = Value.none from rx); exact PySem.W.kia_one PySem.W.kitx_none I.kIn True.intro e (fun z => nomatch z) h
  | bl y => cases (show u = Value.bool y from rx); exact PySem.W.kia_one PySem.W.kitx_bool I.kIn True.intro e (fun z => nomatch z) h
  | int i => obtain ⟨t, q⟩ := (show ∃ t, u = Value.int i t from rx); cases q; exact PySem.W.kia_one PySem.W.kitx_int I.kIn True.intro e (fun z => nomatch z) h
  | str y => obtain ⟨t, q⟩ := (show ∃ t, u = Value.str y t from rx); cases q; exact PySem.W.kia_one PySem.W.kitx_str I.kIn True.intro e (fun z => nomatch z) h
  | flt y => obtain ⟨t, q⟩ := (show ∃ t, u = Value.float y t from rx); cases q; exact PySem.W.kia_one PySem.W.kitx_float I.kIn True.intro e (fun z => nomatch z) h
  | @lst a xs ea =>
    cases (show u = Value.ref a from rx)
    obtain ⟨_, _, n, _, h1⟩ := (show ObjOk X.prog X.w H s.heap a (.lst xs) from I.hok a _ ea)
    exact PySem.W.kia_one PySem.W.kitx_list I.kIn ⟨_, h1, rfl⟩ e (fun z => nomatch z) h
  | @frz a ob xs ea =>
    cases (show u = Value.ref a from rx)
    obtain ⟨_, _, _, n, _, h1⟩ := (show ObjOk X.prog X.w H s.heap a (.frz ob (.lst xs)) from I.hok a _ ea)
    exact PySem.W.kia_one PySem.W.kitx_list I.kIn ⟨_, h1, rfl⟩ e (fun z => nomatch z) h
  | @tup a xs ea =>
    cases (show u = Value.ref a from rx)
    obtain ⟨_, _, _, p⟩ := (show ObjOk X.prog X.w H s.heap a (.tup xs) from I.hok a _ ea)
    obtain ⟨o, h1, h2, _⟩ := p
    exact PySem.W.kia_one PySem.W.kitx_tuple I.kIn ⟨o, h1, h2⟩ e (fun z => nomatch z) h
  | @dK a kvs ea =>
    cases (show u = Value.ref a from rx)
    obtain ⟨_, _, vs, _, p⟩ := (show ObjOk X.prog X.w H s.heap a (.dK kvs) from I.hok a _ ea)
    obtain ⟨o, es, ep, h1, h2, _⟩ := p
    exact PySem.W.kia_one PySem.W.kitx_dict I.kIn ⟨o, h1, h2.1⟩ e (fun z => nomatch z) h
  | @dT a kvs ea =>
    cases (show u = Value.ref a from rx)
    obtain ⟨_, _, xs, _, o, es, ep, h1, h2, _⟩ := (show ObjOk X.prog X.w H s.heap a (.dT kvs) from I.hok a _ ea)
    exact PySem.W.kia_one PySem.W.kitx_dict I.kIn ⟨o, h1, h2.1⟩ e (fun z => nomatch z) h
  | @ins a C dx fs ea cl ha hn htk hm =>
    cases (show u = Value.ref a from rx)
    obtain ⟨mA, O, _⟩ := ins_get I.hok ea
    obtain ⟨od, J, _⟩ := O.look
    exact PySem.W.kia_one (PySem.W.kitx_own (cl.get _) cl.hd ha hn htk hm) I.kIn J e (fun z => nomatch z) h
end
end L2

namespace L2
open PySem PySem.Spec PyProof.Rows

/-! ### room -/
structure Room (k : Nat) (A : Around) : Prop where
  hd : A.handled = none
  dp : A.depth + 3 * k + 5 < recursionLimit
  un : A.units + 16 * k + 200 < cLine
theorem Room.mono {j k : Nat} {A : Around} (r : Room k A) (h : j ≤ k) : Room j A := ⟨r.hd, by have := r.dp; omega, by have := r.un; omega⟩
theorem Room.deeper {k : Nat} {A : Around} (r : Room (k + 1) A) (env : Env) : Room k (A.deeper env) :=
  ⟨r.hd, by have := r.dp; show A.depth + 1 + 3 * k + 5 < _; omega, by have := r.un; show A.units + 3 + 16 * k + 200 < _; omega⟩
theorem Room.in1 {k : Nat} {A : Around} (r : Room (k + 1) A) : Room k A.in1 :=
  ⟨r.hd, by have := r.dp; show A.depth + 3 * k + 5 < _; omega, by have := r.un; show A.units + 1 + 16 * k + 200 < _; omega⟩
theorem Room.depth {k : Nat} {A : Around} (r : Room k A) : A.depth < recursionLimit := by have := r.dp; omega
theorem Room.units {k : Nat} {A : Around} (r : Room k A) : A.units + 64 < cLine := by have := r.un; omega
/-! ### argument lists and displays -/
def tNil : TA := fun _ H Q => Q [] H
def tCons (ta : TE) (tr : TA) : TA := fun σ H Q => ta σ H fun x H1 => tr σ H1 fun xs H2 => Q (x :: xs) H2
section
variable {X : Cx} {e : Expr} {es : List Expr} {te : TE} {t : TA} {pos : Pos}
theorem pa_nil : PA X [] tNil := fun _ _ _ _ H Q I h => Calls.spliced_nil ⟨[], H, I, .nil, h⟩
theorem pa_cons (ha : PE X e te) (hr : PA X es t) (hs : starEach (e :: es) X.env = (false, eval e X.env) :: starEach es X.env := by rfl) : PA X (e :: es) (tCons te t) := by
  intro pos pins s σ H Q I h
  rw [hs]
  show wpAny _ _ (spliced ((false, eval e X.env) :: backTo pos (starEach es X.env))) _ _ s
  refine Calls.spliced_cons (thn (ha pins s σ H _ I h) fun u s1 ⟨x, H1, I1, r1, q1⟩ => ?_)
  exact thn (hr pos pins s1 σ H1 _ I1 q1) fun us s2 ⟨xs, H2, I2, r2, q2⟩ => ⟨x :: xs, H2, I2, .cons r1 r2, q2⟩

/-- a tuple, a list of written items -/
def tTup (t : TA) : TE := fun σ H Q => t σ H fun xs H1 => xs.length ≤ sizeLine ∧ ∀ p, H1 p = none → Q (.ref p) (upd H1 p (.tup xs))
def tLst (t : TA) : TE := fun σ H Q => t σ H fun xs H1 => xs.length ≤ sizeLine ∧ ∀ p, H1 p = none → Q (.ref p) (upd H1 p (.lst xs))
theorem pe_tup {x1} (h : PA X es t) : PE X (.Tuple es x1 pos) (tTup t) := by
  intro pins s σ H Q I hq
  refine wpAny_Tuple_spliced (thn (h pos pins s σ H _ I hq) fun us s1 ⟨xs, H1, I1, r, z, q⟩ => ⟨by rw [← r.length]; exact z, ?_⟩)
  have hf : H1 s1.heap.objs.size = none := I1.hok.fresh (Nat.le_refl _)
  refine ⟨.ref s1.heap.objs.size, upd H1 s1.heap.objs.size (.tup xs), I1.laid (t' := s1.toks) (fun b u e => Heap.get?_push_of_some _ e) (Nat.le_refl _) ?_, rfl, q _ hf⟩
  exact ⟨z, us, r, ⟨_, Heap.get?_push_size _ rfl, rfl, _, rfl⟩⟩
theorem pe_lst (h : PA X es t) : PE X (.List es pos) (tLst t) := by
  intro pins s σ H Q I hq
  refine wpAny_List_spliced (thn (h pos pins s σ H _ I hq) fun us s1 ⟨xs, H1, I1, r, z, q⟩ => ⟨by rw [← r.length]; exact z, ?_⟩)
  have hf : H1 s1.heap.objs.size = none := I1.hok.fresh (Nat.le_refl _)
  refine ⟨.ref s1.heap.objs.size, upd H1 s1.heap.objs.size (.lst xs), I1.laid (t' := s1.toks) (fun b u e => Heap.get?_push_of_some _ e) (Nat.le_refl _) ?_, rfl, q _ hf⟩
  exact ⟨z, us, 0, r, Heap.get?_push_size _ rfl⟩
end

/-! ### what a def promises -/
/-- a def's promise: the bound arguments in the parameters' order, the heap, the wanted end, the wanted exception -/
abbrev Sp := List V → Hp → VK → XK → Prop
/-- how an exception lies behind a call (file 08 gives it): the callers' frames, abstract heap and state ahead of the call, the wish, the exception, the state -/
abbrev CXT := List Env → Hp → Shared → XK → Value → Shared → Prop

/-- the state at a call -/
structure Env0 (P : Program) (w : World) (K : PySem.W.Frag) (mg : Str → Option Value) (base : Heap) (A : Around) (outer : List Env) (s : Shared) (H : Hp) : Prop where
  frames : A.frames = some outer
  mod : Mod K mg base
  bs : ∀ b o, base.get? b = some o → s.heap.get? b = some o ∧ H b = none
  bsz : base.objs.size ≤ s.heap.objs.size
  funs : s.heap.FunFrames base outer
  frf : ∀ b ∈ frs outer, H b = none
  hok : HOk P w H s.heap
  bare : AllBare s.gens
/-- a call's end -/
def CE (outer : List Env) (P : Program) (w : World) (H : Hp) (s : Shared) (Q : VK) (u : Value) (s' : Shared) : Prop :=
  ∃ v H', s'.os = s.os ∧ AllBare s'.gens ∧ Un (frs outer) [] H H' s.heap s'.heap ∧ HOk P w H' s'.heap ∧ RelV v u ∧ Q v H'
def CR (CX : CXT) (outer : List Env) (P : Program) (w : World) (H : Hp) (s : Shared) (Q : VK) (E : XK) (r : Result) (s' : Shared) : Prop :=
  match r with
  | .ok (.ret u) => CE outer P w H s Q u s'
  | .ok _ => False
  | .error e => CX outer H s E e s'
structure FnOk (P : Program) (w : World) (K : PySem.W.Frag) (mg : Str → Option Value) (base : Heap) (CX : CXT) (k : Nat) (f : Addr) (fd : FuncData) (ps : List Str) (sp : Sp) : Prop where
  len : ∀ vs H Q E, sp vs H Q E → vs.length = ps.length
  run : ∀ (A : Around) (outer : List Env) (s : Shared) (H : Hp) (args : Args) (us : List Value) (vs : List V) (Q : VK) (E : XK), Room k A → Env0 P w K mg base A outer s H → BindsTo s fd args (ps.zip us) → Vals vs us → sp vs H Q E →
    codeAny (model P w) A (.call (.ref f) args) (CR CX outer P w H s Q E) s
theorem FnOk.mono {P : Program} {w : World} {K : PySem.W.Frag} {mg : Str → Option Value} {base : Heap} {CX : CXT} {j k : Nat} {f : Addr} {fd : FuncData} {ps : List Str} {sp : Sp} (F : FnOk P w K mg base CX j f fd ps sp) (h : j ≤ k) :
    FnOk P w K mg base CX k f fd ps sp := ⟨F.len, fun A outer s H args us vs Q E hr => F.run A outer s H args us vs Q E (hr.mono h)⟩
/-- a weaker promise -/
theorem FnOk.imp {P : Program} {w : World} {K : PySem.W.Frag} {mg : Str → Option Value} {base : Heap} {CX : CXT} {k : Nat} {f : Addr} {fd : FuncData} {ps : List Str} {sp sp' : Sp} (F : FnOk P w K mg base CX k f fd ps sp)
    (h : ∀ vs H Q E, sp' vs H Q E → sp vs H Q E) : FnOk P w K mg base CX k f fd ps sp' :=
  ⟨fun vs H Q E q => F.len vs H Q E (h _ _ _ _ q), fun A outer s H args us vs Q E hr he hb hv hs => F.run A outer s H args us vs Q E hr he hb hv (h _ _ _ _ hs)⟩

theorem Env0.in1 {P : Program} {w : World} {K : PySem.W.Frag} {mg : Str → Option Value} {base : Heap} {A : Around} {outer : List Env} {s : Shared} {H : Hp} (e : Env0 P w K mg base A outer s H) :
    Env0 P w K mg base A.in1 outer s H := ⟨e.frames, e.mod, e.bs, e.bsz, e.funs, e.frf, e.hok, e.bare⟩

section
variable {X : Cx} {pins : List (Addr × Obj)} {σ : St} {H : Hp} {s s' : Shared}
/-- from a body: what a callee wants -/
theorem Inv.env0 (I : Inv X pins σ H s) : Env0 X.prog X.w X.K X.mg X.base X.A X.stack s H :=
  ⟨I.ok.frames, I.ok.mod, I.bs, Nat.le_trans I.ok.bsz I.sz, I.stack, I.stkFree, I.hok, I.bare⟩
/-- behind a call -/
theorem Inv.after {Q : VK} {u : Value} (I : Inv X pins σ H s) (h : CE X.stack X.prog X.w H s Q u s') : EP X pins σ Q u s' := by
  obtain ⟨v, H', os, bare, un, hok, r, q⟩ := h
  obtain ⟨hh, g, d, t, os'⟩ := s'
  obtain rfl : os' = s.os := os
  exact ⟨v, H', I.call (h' := hh) (g' := g) (d' := d) (t' := t) (ch := []) un hok bare (fun b z => absurd z (by simp)), r, q⟩
end

/-! ### calls -/
/-- f(..): the written arguments, then the defaults dvs; E: what is wanted of an exception -/
def tCall (sp : Sp) (dvs : List V) (E : XK) (t : TA) : TE := fun σ H Q => t σ H fun vs H1 => sp (vs ++ dvs) H1 Q E
/-- how the parameters are bound: us the positional arguments, kw the keywords' values by name, ds the defaults that fill up -/
def Binds (K : PySem.W.Frag) (fd : FuncData) (ps : List Str) (ds : List Value) : Prop :=
  ∀ (s : Shared) (us : List Value), K.In s.heap → (us ++ ds).length = ps.length → BindsTo s fd ⟨us, []⟩ (ps.zip (us ++ ds))
/-- every parameter is given -/
theorem Binds.all {K : PySem.W.Frag} {fd : FuncData} {ps : List Str} (h : ∀ us : List Value, us.length = ps.length → bindArgs fd ⟨us, []⟩ = pure (ps.zip us)) : Binds K fd ps [] := fun s us _ hl => by
  rw [List.append_nil] at hl ⊢
  exact .of_eq (h us hl)

/-- an exception of a callee reaches what this body wants of exceptions -/
def Passes (CX : CXT) (X : Cx) (E : XK) : Prop := ∀ (pins : List (Addr × Obj)) (σ : St) (H : Hp) (s : Shared) (e : Value) (s' : Shared), Inv X pins σ H s → CX X.stack H s E e s' → X.xe e s'

section
variable {X : Cx} {CX : CXT} {k : Nat} {f C : Addr} {fd : FuncData} {ps : List Str} {sp : Sp} {dvs : List V} {ds : List Value} {E : XK} {x m : Str} {p pos apos : Pos} {e o : Expr} {es : List Expr} {ta : TE} {t : TA}

/-- the callee runs -/
theorem run_fn {pins : List (Addr × Obj)} {σ : St} {H : Hp} {s : Shared} {Q : VK} {us : List Value} {vs : List V} (F : FnOk X.prog X.w X.K X.mg X.base CX k f fd ps sp) (hr : Room k X.A) (hb : Binds X.K fd ps ds) (hd : Vals dvs ds) (hx : Passes CX X E)
    (I : Inv X pins σ H s) (r : Vals vs us) (h : sp (vs ++ dvs) H Q E) : wpAny (model X.prog X.w) X.A (call (.ref f) us) (EP X pins σ Q) X.xe s := by
  have r2 : Vals (vs ++ dvs) (us ++ ds) := r.append hd
  have hl : (us ++ ds).length = ps.length := by rw [← r2.length]; exact F.len _ _ _ _ h
  refine wpAny_call (codeAny_mono (F.run X.A X.stack s H ⟨us, []⟩ (us ++ ds) (vs ++ dvs) Q E hr I.env0 (hb s us I.kIn hl) r2 h) fun r s' hq => ?_)
  cases r with
  | error e => exact hx pins σ H s e s' I hq
  | ok fl =>
    cases fl with
    | ret u => exact I.after hq
    | next => exact False.elim hq
    | brk => exact False.elim hq
    | cont => exact False.elim hq

theorem pe_call (F : FnOk X.prog X.w X.K X.mg X.base CX k f fd ps sp) (hr : Room k X.A) (hg : Gl X x) (hm : X.mg x = some (.ref f)) (hk : PySem.W.keepIn X.K (.ref f) = true) (hb : Binds X.K fd ps ds) (hd : Vals dvs ds) (hx : Passes CX X E)
    (ha : PA X (e :: es) t) (hdb : (x == ("__debug__" : Str)) = false := by decide) (he : starEach (e :: es) X.env = (false, eval e X.env) :: starEach es X.env := by rfl) (hpl : (backTo pos (starEach es X.env)).any (·.1) = false := by rfl) :
    PE X (.Call (.Name x p) (e :: es) [] pos) (tCall sp dvs E t) := by
  intro pins s σ H Q I h
  refine wpAny_Call_Name_kw (ld_glob I hg hm ?_ hdb)
  refine PySem.W.callWith_K (h₀ := X.base) I.ok.mod.kin hk (thn (ha pos pins s σ H _ I h) fun us s1 ⟨vs, H1, I1, r, q⟩ => ⟨I1.kIn, ?_⟩) he hpl
  exact run_fn F hr hb hd hx I1 r q
end

section
variable {X : Cx} {CX : CXT} {k : Nat} {f C : Addr} {fd : FuncData} {ps ks : List Str} {sp : Sp} {E : XK} {x m : Str} {p pos apos kpos : Pos} {e o : Expr} {es : List Expr} {kws : List Keyword} {te ta : TE} {t tk : TA} {nm : Option Str}
variable {g : List Value → List Value → List Value} {gV : List V → List V → List V}
end

/-! ### a def's body keeps its promise -/
/-- names: the parameters first -/
structure FnScope (N P : List Str) (sc : Scope) : Prop where
  kind : sc.kind = .function
  co : sc.isCoroutine = false
  gen : sc.isGenerator = false
  nd : N.Nodup
  pre : N.take P.length = P
  par : ∀ x ∈ P, sc.names.lookup x = some .local ∨ sc.names.lookup x = some .cell
  nofree : ∀ y ∈ sc.names, y.2 ≠ .free

theorem bindL_out {kindOf : Str → Option NameKind} {x : Str} : ∀ {binds : List (Str × Value)} {m : Str → Option Value}, (∀ v, (x, v) ∉ binds) → bindL kindOf binds m x = m x
  | [], _, _ => rfl
  | (n, v) :: r, m, h => by
    unfold bindL
    rw [bindL_out fun w hw => h w (List.mem_cons_of_mem _ hw)]
    split
    · have : x ≠ n := by rintro rfl; exact h v List.mem_cons_self
      simp [this]
    · rfl
theorem bindC_out {kindOf : Str → Option NameKind} {x : Str} : ∀ {binds : List (Str × Value)} {m : Str → Option Value}, (∀ v, (x, v) ∉ binds) → bindC kindOf binds m x = m x
  | [], _, _ => rfl
  | (n, v) :: r, m, h => by
    unfold bindC
    rw [bindC_out fun w hw => h w (List.mem_cons_of_mem _ hw)]
    split
    · rfl
    · have : x ≠ n := by rintro rfl; exact h v List.mem_cons_self
      simp [this]
theorem bindL_get {kindOf : Str → Option NameKind} {x : Str} {v : Value} : ∀ {P : List Str} {vs : List Value} {i : Nat} {m : Str → Option Value}, P.Nodup → P[i]? = some x → vs[i]? = some v → kindOf x = some .local →
    bindL kindOf (P.zip vs) m x = some v
  | [], _, _, _, _, h, _, _ => by simp at h
  | _ :: _, [], _, _, _, _, h, _ => by simp at h
  | p :: P, w :: vs, 0, m, nd, h1, h2, hk => by
    simp at h1 h2; subst h1; subst h2
    show bindL kindOf ((p, w) :: P.zip vs) m p = _
    unfold bindL
    rw [bindL_out fun v hv => (List.nodup_cons.mp nd).1 (List.of_mem_zip hv).1, if_pos hk]
    simp
  | p :: P, w :: vs, i + 1, m, nd, h1, h2, hk => by
    show bindL kindOf ((p, w) :: P.zip vs) m x = _
    unfold bindL
    exact bindL_get (i := i) (List.nodup_cons.mp nd).2 (by simpa using h1) (by simpa using h2) hk
theorem bindC_get {kindOf : Str → Option NameKind} {x : Str} {v : Value} : ∀ {P : List Str} {vs : List Value} {i : Nat} {m : Str → Option Value}, P.Nodup → P[i]? = some x → vs[i]? = some v → kindOf x ≠ some .local →
    bindC kindOf (P.zip vs) m x = some v
  | [], _, _, _, _, h, _, _ => by simp at h
  | _ :: _, [], _, _, _, _, h, _ => by simp at h
  | p :: P, w :: vs, 0, m, nd, h1, h2, hk => by
    simp at h1 h2; subst h1; subst h2
    show bindC kindOf ((p, w) :: P.zip vs) m p = _
    unfold bindC
    rw [bindC_out fun v hv => (List.nodup_cons.mp nd).1 (List.of_mem_zip hv).1, if_neg hk]
    simp
  | p :: P, w :: vs, i + 1, m, nd, h1, h2, hk => by
    show bindC kindOf ((p, w) :: P.zip vs) m x = _
    unfold bindC
    exact bindC_get (i := i) (List.nodup_cons.mp nd).2 (by simpa using h1) (by simpa using h2) hk

/-- the names' values at the entry -/
def start (N : List Str) (vs : List V) : St := vs.map some ++ List.replicate (N.length - vs.length) none

/-- the context of a def's body, at its entry; an exception leaves the frame, then lies as CX says -/
def cxOf (CX : CXT) (P : Program) (w : World) (K : PySem.W.Frag) (mg : Str → Option Value) (base : Heap) (N : List Str) (qual : Str) (scope : Scope) (f : Addr) (cd : Value) (A : Around) (outer : List Env) (s : Shared) (H : Hp) (E : XK) : Cx where
  prog := P
  w := w
  K := K
  mg := mg
  base := base
  A := A.deeper (envOfC qual scope s.heap.objs.size f cd)
  N := N
  s₀ := s
  H₀ := H
  env := envOfC qual scope s.heap.objs.size f cd
  outer := outer
  stack := envOfC qual scope s.heap.objs.size f cd :: outer
  ex := []
  calm := true
  fn := fun _ => true
  pn := []
  xe := fun e s' => wpAny (model P w) (A.deeper (envOfC qual scope s.heap.objs.size f cd)) (leaving (envOfC qual scope s.heap.objs.size f cd) e) (fun _ s'' => CX outer H s E e s'') (fun e' s'' => CX outer H s E e' s'') s'

theorem cell_has {sc : Scope} {n : Nat} {x : Str} (h : sc.names.lookup x = some .cell) : ∃ c, (cellsFrom n sc.names []).lookup x = some c := by
  have q := PySem.W.cellsFrom_some sc.names n [] (.inl h)
  exact Option.isSome_iff_exists.mp q

theorem inv_start {CX : CXT} {P : Program} {w : World} {K : PySem.W.Frag} {mg : Str → Option Value} {base : Heap} {N ps : List Str} {qual : Str} {scope : Scope} {f : Addr} {cd : Value} {A : Around} {outer : List Env} {s s1 : Shared} {H : Hp} {E : XK} {us : List Value} {vs : List V}
    (S : FnScope N ps scope) (hd : A.handled = none) (e0 : Env0 P w K mg base A outer s H) (hl : vs.length = ps.length) (r : Vals vs us)
    (x : InCallC s s.heap.objs.size (bindL (envOfC qual scope s.heap.objs.size f cd).kindOf (ps.zip us) fun _ => none) (cellsFrom (s.heap.objs.size + 1) scope.names []) (bindC (envOfC qual scope s.heap.objs.size f cd).kindOf (ps.zip us) fun _ => none) s1) :
    Inv (cxOf CX P w K mg base N qual scope f cd A outer s H E) [] (start N vs) H s1 := by
  have hpl : ps.length ≤ N.length := by have := congrArg List.length S.pre; rw [List.length_take] at this; omega
  obtain ⟨h1, tk, rfl, hk⟩ := x.done
  have noA : ∀ b : Addr, b ∉ (cxOf CX P w K mg base N qual scope f cd A outer s H E).ex := fun b z => absurd (show b ∈ ([] : List Addr) from z) (by simp)
  refine ⟨⟨e0.mod, S.kind, rfl, rfl, Nat.le_refl _, fun y z c h1 h2 => ?_, fun y hy => ?_, fun y c _ h => ?_, fun _ => hd, Around.frames_deeper e0.frames, .inr ⟨rfl, rfl⟩, fun b z => absurd z (noA b), e0.bs, e0.bsz, fun b _ _ => noA b, fun b z => absurd z (noA b), e0.funs, e0.frf⟩,
    rfl, e0.bare, Un.kept hk, ⟨_, x.toInCall.ns, fun i y v h1 h2 h3 => ?_⟩, fun y c h => ⟨_, x.cell y c h⟩, e0.hok.fresh (Nat.le_refl _), fun y c h => ?_, fun p hp => absurd (show p ∈ ([] : List (Addr × Obj)) from hp) (by simp), e0.hok.kept hk, ?_⟩
  · exact name_of_addr x.apart (PySem.mem_of_lookup h1) (PySem.mem_of_lookup h2)
  · have hy : scope.names.lookup y = some .cell ∨ scope.names.lookup y = some .free := hy
    rcases hy with hy | hy
    · exact cell_has hy
    · exact absurd rfl (S.nofree _ (PySem.mem_of_lookup hy))
  · exact Nat.le_of_lt (x.above y c (PySem.mem_of_lookup h))
  · have hi : i < vs.length := by
      unfold start at h2
      by_cases hi : i < vs.length
      · exact hi
      · rw [List.getElem?_append_right (by simpa using hi)] at h2
        rw [List.getElem?_replicate] at h2
        split at h2 <;> cases h2
    have ha : vs[i]? = some v := by
      unfold start at h2
      rw [List.getElem?_append_left (by simpa using hi), List.getElem?_map] at h2
      cases e : vs[i]? with
      | none => rw [e] at h2; cases h2
      | some a => rw [e] at h2; cases h2; rfl
    obtain ⟨u, hu, rv⟩ := r.get ha
    have hp : ps[i]? = some y := by
      rw [← S.pre, List.getElem?_take_of_lt (by omega)]; exact h1
    have ndP : ps.Nodup := by rw [← S.pre]; exact S.nd.sublist (List.take_sublist _ _)
    refine ⟨u, rv, ?_⟩
    rcases S.par y (List.mem_of_getElem? hp) with k | k
    · exact .inl ⟨k, bindL_get ndP hp hu k⟩
    · obtain ⟨c, e⟩ := cell_has (n := s.heap.objs.size + 1) k
      refine .inr ⟨.inl k, c, e, ?_⟩
      have q := x.cell y c e
      rw [bindC_get ndP hp hu (by show scope.names.lookup y ≠ _; rw [k]; decide)] at q
      exact q
  · exact e0.hok.fresh (Nat.le_of_lt (x.above y c (PySem.mem_of_lookup h)))
  · unfold start
    show _ = N.length
    rw [List.length_append, List.length_map, List.length_replicate]
    omega

/-- THE RULE: a def (or a method) of the text, by its body. The body's reading t is chosen for each entry; it is run at the parameters' values -/
theorem fn_of {CX : CXT} {P : Program} {w : World} {K : PySem.W.Frag} {mg : Str → Option Value} {base : Heap} {k : Nat} {f : Addr} {name qual : Str} {params : Arguments} {body : List Stmt} {scope : Scope} {dV kV doc pm cdv ct oc : Value} {an od : Option Addr}
    {osl : Array (Option Value)} {N ps : List Str} {sp : Sp} (lk : K.lookup f = some ⟨oc, od, .func (PySem.W.fnOf name qual params body scope dV kV doc pm an cdv ct), osl⟩) (hcd : PySem.W.codeIn K cdv qual = true) (S : FnScope N ps scope)
    (len : ∀ vs H Q E, sp vs H Q E → vs.length = ps.length)
    (hbody : ∀ (A : Around) (outer : List Env) (s : Shared) (H : Hp) (vs : List V) (Q : VK) (E : XK), Room k (A.deeper (envOfC qual scope s.heap.objs.size f cdv)) → sp vs H Q E →
      ∃ t, PSs (cxOf CX P w K mg base N qual scope f cdv A outer s H E) body t ∧ t { nx := fun _ H' => Q .non H', rt := Q } (start N vs) H) :
    FnOk P w K mg base CX (k + 1) f (PySem.W.fnOf name qual params body scope dV kV doc pm an cdv ct) ps sp := by
  refine ⟨len, fun A outer s H args us vs Q E hr e0 hb r hsp => ?_⟩
  have hl := len _ _ _ _ hsp
  have KX : K.In s.heap := e0.mod.kin.keeps fun b o e => (e0.bs b o e).1
  have lim : s.heap.NoLimit := e0.mod.nolimit.keeps fun b o e => (e0.bs b o e).1
  have hkind : ∀ y ∈ ps.zip us, scope.names.lookup y.1 = some .local ∨ (scope.names.lookup y.1 = some .cell ∧ ((cellsFrom (s.heap.objs.size + 1) scope.names []).lookup y.1).isSome = true) := fun ⟨n, v⟩ hy => by
    rcases S.par n (List.of_mem_zip hy).1 with q | q
    · exact .inl q
    · exact .inr ⟨q, PySem.W.cellsFrom_some _ _ _ (.inl q)⟩
  refine codeAny_call_function hr.depth (KX _ _ lk) rfl S.co S.gen rfl (PySem.W.codeRec_of KX hcd) (hb _ _ _ _ ?_)
  refine wpAny_newFunctionEnv_cells S.kind hkind fun env he s1 x => ?_
  subst he
  refine ⟨lim.keeps x.toInCall.keep, codeAny_func ?_⟩
  obtain ⟨t, ht, hq⟩ := hbody A outer s H vs Q E (hr.deeper _) hsp
  have I : Inv (cxOf CX P w K mg base N qual scope f cdv A outer s H E) [] (start N vs) H s1 := inv_start S hr.hd e0 hl r x
  refine wpAny_mono (ht [] s1 (start N vs) H _ I hq) (fun fl s' hs => ?_) fun e s' hs => hs
  have fin : ∀ {σ' : St} {H' : Hp} {v : V} {u : Value}, Inv (cxOf CX P w K mg base N qual scope f cdv A outer s H E) [] σ' H' s' → RelV v u → Q v H' → CE outer P w H s Q u s' :=
    fun {σ' H' v u} J rv q => ⟨v, H', J.os, J.bare, J.base, J.hok, rv, q⟩
  cases fl with
  | ret u =>
    obtain ⟨v, σ', H', J, rv, q⟩ := hs
    exact fin J rv q
  | next =>
    obtain ⟨σ', H', J, q⟩ := hs
    exact fin (v := V.non) (u := Value.none) J rfl q
  | brk =>
    obtain ⟨_, _, _, q⟩ := hs
    exact False.elim q
  | cont =>
    obtain ⟨_, _, _, q⟩ := hs
    exact False.elim q
end L2

namespace L2
open PySem PySem.Spec PyProof.Rows
section
variable {X : Cx} {x : Str} {p pos : Pos} {e : Expr} {es : List Expr} {t : TA} {id T : String} {r : List V → Hp → VK → Prop}

def tCB (r : List V → Hp → VK → Prop) (t : TA) : TE := fun σ H Q => t σ H fun vs H1 => r vs H1 Q
/-- f(e, ..), f a built-in function -/
theorem pe_callB (hc : CallR X (.builtin id) r) (hg : Gl X x) (hm : X.mg x = none) (hv : bootBuiltins x = some (.builtin id)) (ha : PA X (e :: es) t) (hn : x ≠ "__name__" := by decide) (hdb : (x == ("__debug__" : Str)) = false := by decide)
    (he : starEach (e :: es) X.env = (false, eval e X.env) :: starEach es X.env := by rfl) (hpl : (backTo pos (starEach es X.env)).any (·.1) = false := by rfl) : PE X (.Call (.Name x p) (e :: es) [] pos) (tCB r t) := by
  intro pins s σ H Q I h
  refine wpAny_Call_Name_kw (ld_blt I hg hm hv ?_ hn hdb)
  exact PyProof.Rows.callWith_builtin1 (thn (ha pos pins s σ H _ I h) fun us s1 ⟨vs, H1, I1, r1, q1⟩ => hc pins s1 σ H1 vs us Q I1 r1 q1) he hpl
/-- T(e, ..), T a built-in type -/
theorem pe_callTy (hc : CallR X (.type T) r) (hg : Gl X x) (hm : X.mg x = none) (hv : bootBuiltins x = some (.type T)) (ha : PA X (e :: es) t) (hn : x ≠ "__name__" := by decide) (hdb : (x == ("__debug__" : Str)) = false := by decide)
    (he : starEach (e :: es) X.env = (false, eval e X.env) :: starEach es X.env := by rfl) (hpl : (backTo pos (starEach es X.env)).any (·.1) = false := by rfl) : PE X (.Call (.Name x p) (e :: es) [] pos) (tCB r t) := by
  intro pins s σ H Q I h
  refine wpAny_Call_Name_kw (ld_blt I hg hm hv ?_ hn hdb)
  exact PyProof.Rows.callWith_type1 (thn (ha pos pins s σ H _ I h) fun us s1 ⟨vs, H1, I1, r1, q1⟩ => hc pins s1 σ H1 vs us Q I1 r1 q1) he hpl
end
end L2

namespace HT
open PySem PyProof.Rows

section
open PySem.SeqAt
open PySem.AutoSeq1 (wpAny_loadPart')
open PySem.MeetsSeq PySem.MeetsSeq2 PySem.MeetsSeq3

end

section
variable {prog : Program} {w : World} {A : Around} {E : Value → Shared → Prop} {s : Shared}

/-! ### t[a:b], not the whole -/
/-- a slice's bound as a place among n (d where it is left out) -/
def sIx (n d : Nat) : Option Int → Nat
  | none => d
  | some v => if v < 0 then (v + (n : Int)).toNat else min v.toNat n
theorem sIx_nat (n d k : Nat) : sIx n d (some (k : Int)) = min k n := by
  show (if (k : Int) < 0 then ((k : Int) + (n : Int)).toNat else min (k : Int).toNat n) = min k n
  rw [if_neg (by omega), Int.toNat_natCast]
end
end HT

namespace L2
open PySem PySem.Spec PyProof.Rows

/-! ### the parts of a slice -/
abbrev TO := St → Hp → (Option Int → Hp → Prop) → Prop
/-- a slice's part (left out, or an int) -/
def PO (X : Cx) (e : Option Expr) (t : TO) : Prop :=
  ∀ (pins : List (Addr × Obj)) (s : Shared) (σ : St) (H : Hp) (Q : Option Int → Hp → Prop), Inv X pins σ H s → t σ H Q →
    wpAny (model X.prog X.w) X.A (evalPart e X.env) (fun u s' => ∃ o H', Inv X pins σ H' s' ∧ IsPart u o ∧ Q o H') X.xe s
def tNoPart : TO := fun _ H Q => Q none H
def tPart (t : TE) : TO := fun σ H Q => t σ H fun x H1 => ∃ i, x = .int i ∧ Q (some i) H1

section
variable {X : Cx} {e : Expr} {te : TE} {lo hi : Option Expr} {tl th : TO} {pos p2 : Pos}

theorem po_none : PO X none tNoPart := by
  intro pins s σ H Q I h
  rw [evalPart_none]
  exact wpAny_pure ⟨none, H, I, .none, h⟩
theorem po_some (h : PE X e te) : PO X (some e) (tPart te) := by
  intro pins s σ H Q I hw
  rw [evalPart_some]
  refine thn (h pins s σ H _ I hw) fun u s1 ⟨x, H1, I1, r1, q1⟩ => ?_
  obtain ⟨i, rfl, q⟩ := q1
  obtain ⟨t, rfl⟩ := r1
  exact ⟨some i, H1, I1, .int i t, q⟩

/-- what a slice of a value is, by values: the slice object stands at sl -/
def SlR (X : Cx) (r : V → Option Int → Option Int → Hp → VK → Prop) : Prop :=
  ∀ (pins : List (Addr × Obj)) (s : Shared) (σ : St) (H : Hp) (x : V) (v vl vu : Value) (lo hi : Option Int) (sl : Addr) (Q : VK), Inv X pins σ H s → RelV x v → s.heap.IsSliceOf sl vl vu .none → IsPart vl lo → IsPart vu hi → r x lo hi H Q →
    ∃ T id, typeLookup (.type T) "__getitem__" = pure (some (.builtin id)) ∧ s.TypeIs v T ∧ wpAny (model X.prog X.w) X.A (getItem v (.ref sl)) (EP X pins σ Q) X.xe s
theorem SlR.or {r r' : V → Option Int → Option Int → Hp → VK → Prop} (h : SlR X r) (h' : SlR X r') : SlR X (fun x lo hi H Q => r x lo hi H Q ∨ r' x lo hi H Q) := by
  intro pins s σ H x v vl vu lo hi sl Q I rx hs pl pu q
  rcases q with q | q
  · exact h pins s σ H x v vl vu lo hi sl Q I rx hs pl pu q
  · exact h' pins s σ H x v vl vu lo hi sl Q I rx hs pl pu q
def tSl (r : V → Option Int → Option Int → Hp → VK → Prop) (te : TE) (tl th : TO) : TE := fun σ H Q => te σ H fun x H1 => tl σ H1 fun l H2 => th σ H2 fun u H3 => r x l u H3 Q
/-- a[lo:hi], any a -/
theorem pe_slice {r : V → Option Int → Option Int → Hp → VK → Prop} (hr : SlR X r) (he : PE X e te) (hl : PO X lo tl) (hu : PO X hi th) : PE X (.Subscript e (.Slice lo hi none p2) pos) (tSl r te tl th) := by
  intro pins s σ H Q I h
  refine Subscript_ (thn (he pins s σ H _ I h) fun v s1 ⟨x, H1, I1, r1, q1⟩ => ?_)
  refine wpAny_Slice (thn (hl pins s1 σ H1 _ I1 q1) fun vl s2 ⟨l, H2, I2, pl, q2⟩ => thn (hu pins s2 σ H2 _ I2 q2) fun vu s3 ⟨u, H3, I3, pu, q3⟩ => ?_)
  rw [evalPart_none]
  refine wpAny_pure ?_
  have I4 : Inv X pins σ H3 { s3 with heap := s3.heap.push { cls := .type "slice", data := .fields #[vl, vu, .none] } } := I3.kept (t' := s3.toks) fun b ob q => Heap.get?_push_of_some _ q
  obtain ⟨T, id, hT, ht, hg⟩ := hr pins { s3 with heap := s3.heap.push { cls := .type "slice", data := .fields #[vl, vu, .none] } } σ H3 x v vl vu l u s3.heap.objs.size Q I4 r1 (Heap.IsSliceOf.new ..) pl pu q3
  show wpAny (model X.prog X.w) X.A (subscriptTail e (.Slice lo hi none p2) v (.ref s3.heap.objs.size)) (EP X pins σ Q) X.xe { s3 with heap := s3.heap.push { cls := .type "slice", data := .fields #[vl, vu, .none] } }
  exact tail_any (ops := [.ref s3.heap.objs.size, v]) ht hT hg (by with_unfolding_all rfl)

/-- the items of xs[lo:hi] -/
def cutV (xs : List V) (lo hi : Option Int) : List V := (xs.drop (HT.sIx xs.length 0 lo)).take (HT.sIx xs.length xs.length hi - HT.sIx xs.length 0 lo)
theorem cutV_length (xs : List V) (lo hi : Option Int) : (cutV xs lo hi).length ≤ xs.length := by
  unfold cutV
  rw [List.length_take, List.length_drop]
  omega
end
end L2

namespace L2
open PySem PySem.Spec PyProof.Rows

/-! ### places -/
/-- the place that an index of any sign means -/
def ixN (n : Nat) (i : Int) : Option Nat := if 0 ≤ i then (if i < n then some i.toNat else none) else if -(n : Int) ≤ i then some (i + n).toNat else none
def atI {α : Type} (xs : List α) (i : Int) : Option α := (ixN xs.length i).bind fun j => xs[j]?
theorem ixN_seq {n : Nat} {i : Int} {j : Nat} (h : ixN n i = some j) : seqIndex? i n = some j ∧ j < n ∧ -(n : Int) ≤ i ∧ i < n := by
  unfold ixN at h
  by_cases h0 : 0 ≤ i
  · rw [if_pos h0] at h
    by_cases h1 : i < n
    · rw [if_pos h1] at h
      have e : i.toNat = j := Option.some.inj h
      exact ⟨by rw [seqIndex_of h0 h1, e], by omega, by omega, h1⟩
    · rw [if_neg h1] at h; cases h
  · rw [if_neg h0] at h
    by_cases h1 : -(n : Int) ≤ i
    · rw [if_pos h1] at h
      have e : (i + n).toNat = j := Option.some.inj h
      exact ⟨by rw [seqIndex_neg (by omega) h1, e], by omega, h1, by omega⟩
    · rw [if_neg h1] at h; cases h
theorem atI_get {α : Type} {xs : List α} {i : Int} {v : α} (h : atI xs i = some v) : ∃ j, seqIndex? i xs.length = some j ∧ xs[j]? = some v ∧ j < xs.length ∧ -(xs.length : Int) ≤ i ∧ i < xs.length := by
  unfold atI at h
  cases e : ixN xs.length i with
  | none => rw [e] at h; cases h
  | some j =>
    rw [e] at h
    obtain ⟨h1, h2, h3, h4⟩ := ixN_seq e
    exact ⟨j, h1, h, h2, h3, h4⟩
theorem atI_nat {α : Type} {xs : List α} {j : Nat} {v : α} (h : xs[j]? = some v) : atI xs (j : Int) = some v := by
  have hj : j < xs.length := (List.getElem?_eq_some_iff.mp h).1
  have e : ixN xs.length (j : Int) = some j := by
    unfold ixN
    rw [if_pos (by omega), if_pos (by omega)]; simp
  unfold atI; rw [e]; exact h
/-! ### what may be subscripted -/
/-- what stands as an index of a plain subscript -/
def PlainIx (b : Expr) : Prop := ∀ o i, subscripted b false o i = operate [o, i] (getItem o i)
/-- a subscript by values -/
def IxR (X : Cx) (r : R2) : Prop :=
  ∀ (value slice : Expr) (pins : List (Addr × Obj)) (s : Shared) (σ : St) (H : Hp) (x y : V) (v u : Value) (Q : VK), Inv X pins σ H s → RelV x v → RelV y u → r x y H Q →
    subscripted slice false v u = operate [v, u] (getItem v u) → wpAny (model X.prog X.w) X.A (subscriptTail value slice v u) (EP X pins σ Q) X.xe s
/-- a call of a builtin's method by values: the receiver, the arguments -/
def MtR (X : Cx) (id : String) (r : V → List V → Hp → VK → Prop) : Prop :=
  ∀ (pins : List (Addr × Obj)) (s : Shared) (σ : St) (H : Hp) (x : V) (xs : List V) (v : Value) (us : List Value) (Q : VK), Inv X pins σ H s → RelV x v → Vals xs us → r x xs H Q →
    wpAny (model X.prog X.w) X.A (call (.builtin id) (v :: us)) (EP X pins σ Q) X.xe s
section
variable {X : Cx} {a b : Expr} {ta tb : TE} {pos : Pos}
theorem IxR.or {r r' : R2} (h : IxR X r) (h' : IxR X r') : IxR X (fun x y H Q => r x y H Q ∨ r' x y H Q) := by
  intro value slice pins s σ H x y v u Q I rx ry q hs
  rcases q with q | q
  · exact h value slice pins s σ H x y v u Q I rx ry q hs
  · exact h' value slice pins s σ H x y v u Q I rx ry q hs
theorem MtR.or {id : String} {r r' : V → List V → Hp → VK → Prop} (h : MtR X id r) (h' : MtR X id r') : MtR X id (fun x xs H Q => r x xs H Q ∨ r' x xs H Q) := by
  intro pins s σ H x xs v us Q I rx rs q
  rcases q with q | q
  · exact h pins s σ H x xs v us Q I rx rs q
  · exact h' pins s σ H x xs v us Q I rx rs q
/-- a[b] -/
theorem pe_ix {r : R2} (hr : IxR X r) (ha : PE X a ta) (hb : PE X b tb) (hs : PlainIx b) : PE X (.Subscript a b pos) (tOp r ta tb) := by
  intro pins s σ H Q I h
  exact Subscript_ (binT ha hb I h fun v u s2 x y H2 I2 rx ry q => hr a b pins s2 σ H2 x y v u Q I2 rx ry q (hs _ _))

def rIxL (K : PySem.W.Frag) : R2 := fun x y H Q => ∃ p xs i v, x = .ref p ∧ y = .int i ∧ SqL K H p xs ∧ atI xs i = some v ∧ Q v H
def rIxT (K : PySem.W.Frag) : R2 := fun x y H Q => ∃ p xs i v, x = .ref p ∧ y = .int i ∧ SqT K H p xs ∧ atI xs i = some v ∧ Q v H
theorem ix_list : IxR X (rIxL X.K) := by
  intro value slice pins s σ H x y v u Q I rx ry h hs
  obtain ⟨p, xs, i, z, rfl, rfl, hq, he, q⟩ := h
  cases rx
  obtain ⟨t, rfl⟩ := ry
  obtain ⟨its, r, pl, hz⟩ := I.list hq
  obtain ⟨j, h1, h2, h3, h4, h5⟩ := atI_get he
  obtain ⟨w, ew, rw'⟩ := r.get h2
  have hl := r.length
  have hn := line63
  have fin : EP X pins σ Q w s := ⟨z, H, I, rw', q⟩
  by_cases h0 : 0 ≤ i
  · have hj : i.toNat = j := by
      rw [seqIndex_of h0 h5] at h1
      exact Option.some.inj h1
    exact item_listR pl.isList h0 (by omega) (by rw [hj]; simpa using ew) fin hs
  · have hj : (i + (its.toArray.size : Int)).toNat = j := by
      rw [seqIndex_neg (by omega) h4] at h1
      rw [List.size_toArray, ← hl]
      exact Option.some.inj h1
    exact subscriptTail_builtinR (x := w) pl.isList.typeIs slot_list_getitem.lookup
      (wpAny_getItem_list_neg (Q := fun r s' => r = w ∧ EP X pins σ Q r s') pl.isList (by omega) (by rw [List.size_toArray] <;> omega) (by omega) (by rw [hj]; simpa using ew) ⟨rfl, fin⟩) hs
theorem ix_tup : IxR X (rIxT X.K) := by
  intro value slice pins s σ H x y v u Q I rx ry h hs
  obtain ⟨p, xs, i, z, rfl, rfl, hq, he, q⟩ := h
  cases rx
  obtain ⟨t, rfl⟩ := ry
  obtain ⟨its, r, pl, hz⟩ := I.tuple hq
  obtain ⟨j, h1, h2, h3, h4, h5⟩ := atI_get he
  obtain ⟨w, ew, rw'⟩ := r.get h2
  have hl := r.length
  have hn := line63
  have fin : EP X pins σ Q w s := ⟨z, H, I, rw', q⟩
  exact subscriptTail_builtinR (x := w) pl.typeIs slot_tuple_getitem.lookup
    (getItem_tuple (j := j) (Q := fun r s' => r = w ∧ EP X pins σ Q r s') pl (by omega) (by omega) (by rw [List.size_toArray, ← hl]; exact h1) (by simpa using ew) ⟨rfl, fin⟩) hs
/-! ### xs[i] = v, any sign -/
/-- the list's object behind a store -/
theorem mapSeq_set (its : List Value) (n j : Nat) (u : Value) : Obj.mapSeq (·.setIfInBounds j u) { cls := .type "list", data := .seq its.toArray n } = { cls := .type "list", data := .seq (its.set j u).toArray n } := by
  simp [Obj.mapSeq]
theorem Inv.lst {pins : List (Addr × Obj)} {σ : St} {H : Hp} {s : Shared} {p : Addr} {xs : List V} (I : Inv X pins σ H s) (h : H p = some (.lst xs)) :
    ∃ (its : List Value) (n : Nat), Vals xs its ∧ s.heap.get? p = some { cls := .type "list", data := .seq its.toArray n } ∧ xs.length ≤ sizeLine := by
  obtain ⟨z, its, n, r, e⟩ := I.hok p _ h
  exact ⟨its, n, r, e, z⟩
/-- the list at p is written by an update of its object -/
theorem Inv.lstUpd {pins : List (Addr × Obj)} {σ : St} {H : Hp} {s : Shared} {p : Addr} {xs ys : List V} {its its' : List Value} {n n' : Nat} {f : Obj → Obj} (I : Inv X pins σ H s) (h : H p = some (.lst xs))
    (ho : s.heap.get? p = some { cls := .type "list", data := .seq its.toArray n }) (hf : f { cls := .type "list", data := .seq its.toArray n } = { cls := .type "list", data := .seq its'.toArray n' }) (r : Vals ys its') (hz : ys.length ≤ sizeLine) (t : Nat) :
    Inv X pins σ (upd H p (.lst ys)) { s with heap := s.heap.update p f, toks := t } := by
  have e : (s.heap.update p f).get? p = some { cls := .type "list", data := .seq its'.toArray n' } := by
    rw [Heap.get?_update_self f ho (by rw [hf] <;> rfl), hf]
  refine I.write (x := p) (e := p) (by rw [h]; trivial) (.inl rfl) (fun b u hb q => (Heap.get?_update_other _ _ (Ne.symm hb)).trans q) ⟨_, e⟩ ?_
  exact ⟨hz, its', n', r, e⟩
def rSetL : V → V → V → Hp → (Hp → Prop) → Prop := fun o i v H Q => ∃ p xs k j, o = .ref p ∧ i = .int k ∧ H p = some (.lst xs) ∧ ixN xs.length k = some j ∧ Q (upd H p (.lst (xs.set j v)))
theorem set_list : PSet X rSetL := by
  intro pins s σ H o i v ov iv u Q I ro ri rv h
  obtain ⟨p, xs, k, j, rfl, rfl, hp, hj, q⟩ := h
  cases ro
  obtain ⟨t, rfl⟩ := ri
  obtain ⟨its, n, r, ho, hz⟩ := I.lst hp
  obtain ⟨h1, h2, h3, h4⟩ := ixN_seq hj
  have hl := r.length
  have hn := line63
  have I' : Inv X pins σ (upd H p (.lst (xs.set j v))) { s with heap := s.heap.update p (Obj.mapSeq (·.setIfInBounds j u)) } :=
    I.lstUpd hp ho (mapSeq_set its n j u) (r.set rv j) (by rw [List.length_set]; exact hz) s.toks
  by_cases h0 : 0 ≤ k
  · have hk : k.toNat = j := by
      rw [seqIndex_of h0 h4] at h1
      exact Option.some.inj h1
    exact PySem.W.ki_setAt ho h0 (by omega) (by rw [List.size_toArray, ← hl]; exact h4) (by rw [hk]; exact ⟨_, I', q⟩)
  · have hk : (k + (its.toArray.size : Int)).toNat = j := by
      rw [seqIndex_neg (by omega) h3] at h1
      rw [List.size_toArray, ← hl]
      exact Option.some.inj h1
    exact PySem.W.ki_setBack ho (by omega) (by rw [List.size_toArray, ← hl]; exact h3) (by omega) (by rw [hk]; exact ⟨_, I', q⟩)

/-! ### slices -/
theorem slice_bounds (lo hi : Option Int) (n : Nat) : (sliceBounds lo hi none n).1 = ((HT.sIx n 0 lo : Nat) : Int) ∧ (sliceBounds lo hi none n).2.1 = ((HT.sIx n n hi : Nat) : Int) ∧ (sliceBounds lo hi none n).2.2 = 1 := by
  refine ⟨?_, ?_, rfl⟩
  · cases lo with
    | none => simp [sliceBounds, HT.sIx]
    | some i =>
      simp only [sliceBounds, HT.sIx, Option.getD_none, show (1 : Int) > 0 by decide, if_true]
      by_cases h : i < 0
      · simp only [h, if_true] <;> omega
      · simp only [h, if_false] <;> omega
  · cases hi with
    | none => simp [sliceBounds, HT.sIx]
    | some i =>
      simp only [sliceBounds, HT.sIx, Option.getD_none, show (1 : Int) > 0 by decide, if_true]
      by_cases h : i < 0
      · simp only [h, if_true] <;> omega
      · simp only [h, if_false] <;> omega
theorem slicePick_cut (its : List Value) (lo hi : Option Int) : slicePick its.toArray lo hi none = ((its.drop (HT.sIx its.length 0 lo)).take (HT.sIx its.length its.length hi - HT.sIx its.length 0 lo)).toArray := by
  obtain ⟨h1, h2, h3⟩ := slice_bounds lo hi its.toArray.size
  unfold slicePick
  rw [h1, h2, h3]
  simp only [sliceRange_one, pick_run, List.size_toArray] <;> rfl
/-- xs[lo:hi] of a list: a new list -/
def rSlL (K : PySem.W.Frag) : V → Option Int → Option Int → Hp → VK → Prop := fun x lo hi H Q => ∃ a xs, x = .ref a ∧ SqL K H a xs ∧ ∀ p, H p = none → Q (.ref p) (upd H p (.lst (cutV xs lo hi)))
theorem sl_list : SlR X (rSlL X.K) := by
  intro pins s σ H x v vl vu lo hi sl Q I rx hs pl pu h
  obtain ⟨a, xs, rfl, hx, q⟩ := h
  cases rx
  obtain ⟨its, r, ht, hz⟩ := I.list hx
  have hlen := r.length
  refine ⟨"list", _, slot_list_getitem.lookup, ht.isList.typeIs, ?_⟩
  refine wpAny_getItem_list_slice ht.isList hs pl pu .none (by simp) ?_ (by rw [List.size_toArray] <;> omega)
  rw [slicePick_cut, ← hlen]
  refine ⟨.ref s.heap.objs.size, _, I.laid (t' := s.toks) (o := .lst (cutV xs lo hi)) (fun b ob q => Heap.get?_push_of_some _ q) (Nat.le_refl _) ?_, rfl, q _ (I.hok.fresh (Nat.le_refl _))⟩
  exact ⟨Nat.le_trans (cutV_length xs lo hi) hz, _, 0, (r.drop (HT.sIx xs.length 0 lo)).take (HT.sIx xs.length xs.length hi - HT.sIx xs.length 0 lo), Heap.get?_push_size _ rfl⟩

/-! ### in, not in: flat items -/
def flatV : V → Bool
  | .non => true
  | .bl _ => true
  | .int _ => true
  | .str _ => true
  | _ => false
/-- == of flat values -/
def eqV : V → V → Bool
  | .non, .non => true
  | .bl a, .bl b => a == b
  | .bl a, .int b => (if a then 1 else 0) == b
  | .int a, .bl b => a == (if b then 1 else 0)
  | .int a, .int b => a == b
  | .str a, .str b => a == b
  | _, _ => false
theorem eqAt_V {A : Around} {s : Shared} {y x : V} {u v : Value} (ry : RelV y u) (rx : RelV x v) (fy : flatV y = true) (fx : flatV x = true) : SeqAt.EqAt A s u v (eqV y x) := by
  cases y with
  | non =>
    cases ry
    cases x with
    | non => cases rx; exact SeqAt.EqAt.same _
    | bl b => cases rx; exact SeqAt.EqAt.none_bool b
    | int b => obtain ⟨t, rfl⟩ := rx; exact SeqAt.EqAt.none_int b t
    | str b => obtain ⟨t, rfl⟩ := rx; exact SeqAt.EqAt.none_str b t
    | _ => exact absurd (show false = true from fx) Bool.false_ne_true
  | bl a =>
    cases ry
    cases x with
    | non => cases rx; exact SeqAt.EqAt.bool_none a
    | bl b => cases rx; exact SeqAt.EqAt.bool_bool a b
    | int b => obtain ⟨t, rfl⟩ := rx; exact SeqAt.EqAt.bool_int a b t
    | str b => obtain ⟨t, rfl⟩ := rx; exact SeqAt.EqAt.bool_str a b t
    | _ => exact absurd (show false = true from fx) Bool.false_ne_true
  | int a =>
    obtain ⟨t', rfl⟩ := ry
    cases x with
    | non => cases rx; exact SeqAt.EqAt.int_none a t'
    | bl b => cases rx; exact SeqAt.EqAt.int_bool a t' b
    | int b => obtain ⟨t, rfl⟩ := rx; exact SeqAt.EqAt.int_int a t' b t
    | str b => obtain ⟨t, rfl⟩ := rx; exact SeqAt.EqAt.int_str a t' b t
    | _ => exact absurd (show false = true from fx) Bool.false_ne_true
  | str a =>
    obtain ⟨t', rfl⟩ := ry
    cases x with
    | non => cases rx; exact SeqAt.EqAt.str_none a t'
    | bl b => cases rx; exact SeqAt.EqAt.str_bool a t' b
    | int b => obtain ⟨t, rfl⟩ := rx; exact SeqAt.EqAt.str_int a t' b t
    | str b => obtain ⟨t, rfl⟩ := rx; exact SeqAt.EqAt.str_str a t' b t
    | _ => exact absurd (show false = true from fx) Bool.false_ne_true
  | _ => exact absurd (show false = true from fy) Bool.false_ne_true
def inV (x : V) (xs : List V) : Bool := xs.any fun y => eqV y x
/-! ### len, list(x), tuple(x) of any list or tuple that is read -/
theorem call_len_seq : CallR X (.builtin "len") (fun xs H Q => ∃ p ys, xs = [.ref p] ∧ (SqL X.K H p ys ∨ SqT X.K H p ys) ∧ Q (.int ys.length) H) := by
  intro pins s σ H xs us Q I r h
  obtain ⟨p, ys, rfl, hq, q⟩ := h
  obtain ⟨u, rfl, rx⟩ := vals1 r
  cases rx
  have hn := line63
  rcases hq with hq | hq
  · obtain ⟨its, r', pl, hz⟩ := I.list hq
    have hlen := r'.length
    exact Calls.call_len_list pl.isList (by simp only [List.size_toArray] <;> omega) ⟨.int ys.length, H, I.tok _, ⟨s.toks + 1, by rw [List.size_toArray, hlen]⟩, q⟩
  · obtain ⟨its, r', pl, hz⟩ := I.tuple hq
    have hlen := r'.length
    exact len_tuple pl (by simp only [List.size_toArray] <;> omega) ⟨.int ys.length, H, I.tok _, ⟨s.toks + 1, by rw [List.size_toArray, hlen]⟩, q⟩
theorem CallR.or {f : Value} {r r' : List V → Hp → VK → Prop} (h : CallR X f r) (h' : CallR X f r') : CallR X f (fun xs H Q => r xs H Q ∨ r' xs H Q) := by
  intro pins s σ H xs us Q I rs q
  rcases q with q | q
  · exact h pins s σ H xs us Q I rs q
  · exact h' pins s σ H xs us Q I rs q
/-! ### the call of a builtin's method: o.m(..) -/
/-- the value is of that builtin type -/
def tyV (K : PySem.W.Frag) (T : String) (x : V) (H : Hp) : Prop := match x with
  | .str _ => T = "str"
  | .int _ => T = "int"
  | .ref p => (T = "list" ∧ ∃ xs, SqL K H p xs) ∨ (T = "tuple" ∧ ∃ o, K.lookup p = some o ∧ o.cls = .type "tuple" ∧ o.dict = none) ∨
      (T = "dict" ∧ ((∃ kvs, H p = some (.dK kvs)) ∨ ∃ kvs, H p = some (.dT kvs))) ∨ (T = "set" ∧ ∃ S n, H p = some (.set S n))
  | _ => False
theorem tyV_is {pins : List (Addr × Obj)} {σ : St} {H : Hp} {s : Shared} {T : String} {x : V} {v : Value} (I : Inv X pins σ H s) (r : RelV x v) (ty : tyV X.K T x H) :
    s.TypeIs v T ∧ ∀ a, v = .ref a → ∃ ob, s.heap.get? a = some ob ∧ ob.dict = none := by
  cases x with
  | str z =>
    obtain ⟨t, rfl⟩ := r
    cases (show T = "str" from ty)
    exact ⟨typeIs_str s z t, fun _ e => nomatch e⟩
  | int i =>
    obtain ⟨t, rfl⟩ := r
    cases (show T = "int" from ty)
    exact ⟨typeIs_int s i t, fun _ e => nomatch e⟩
  | ref p =>
    cases r
    rcases ty with ⟨rfl, xs, hq⟩ | ⟨rfl, o, hk, hc, hd⟩ | ⟨rfl, hk⟩ | ⟨rfl, S, n, hk⟩
    · obtain ⟨its, _, pl, _⟩ := I.list hq
      refine ⟨pl.isList.typeIs, fun a e => ?_⟩
      cases e
      obtain ⟨o, n, e, c, hd, _⟩ := pl
      exact ⟨o, e, hd⟩
    · refine ⟨⟨o, I.kIn p o hk, hc⟩, fun a e => ?_⟩
      cases e
      exact ⟨o, I.kIn _ o hk, hd⟩
    · have z : ∃ o, s.heap.get? p = some o ∧ o.ExactDict := by
        rcases hk with ⟨kvs, hk⟩ | ⟨kvs, hk⟩
        · obtain ⟨_, _, _, _, o, _, _, e, ex, _⟩ := I.hok p _ hk
          exact ⟨o, e, ex⟩
        · obtain ⟨_, _, _, _, o, _, _, e, ex, _⟩ := I.hok p _ hk
          exact ⟨o, e, ex⟩
      obtain ⟨o, e, ex⟩ := z
      refine ⟨⟨o, e, ex.1⟩, fun a e2 => ?_⟩
      cases e2
      exact ⟨o, e, ex.2.1⟩
    · obtain ⟨o, _, _, _, e, ex, _⟩ := I.hok p _ hk
      refine ⟨⟨o, e, ex.1⟩, fun a e2 => ?_⟩
      cases e2
      exact ⟨o, e, ex.2.1⟩
  | _ => exact False.elim ty
def tBM0 (K : PySem.W.Frag) (T : String) (r : V → List V → Hp → VK → Prop) (to : TE) : TE := fun σ H Q => to σ H fun x H1 => tyV K T x H1 ∧ r x [] H1 Q
def tBM (K : PySem.W.Frag) (T : String) (r : V → List V → Hp → VK → Prop) (to : TE) (t : TA) : TE := fun σ H Q => to σ H fun x H1 => tyV K T x H1 ∧ t σ H1 fun xs H2 => r x xs H2 Q
variable {o e : Expr} {es : List Expr} {to : TE} {t : TA} {name : Str} {apos cpos : Pos} {T id : String} {r : V → List V → Hp → VK → Prop}
theorem pe_bm (pa : PlainAttrs T) (slot : Slot T name id) (hty : typeOf (.builtin id) = pure (.type "method_descriptor")) (hm : MtR X id r) (ho : PE X o to) (ha : PA X (e :: es) t)
    (hbase : attributeBase o name X.env (eval o X.env) = eval o X.env := by rfl)
    (hfew : ((backTo cpos (starEach (e :: es) X.env)).all (fun x => !x.1) && (backToKw cpos (keywordEach [] X.env)).all (fun x => x.1.isSome)
      && decide ((e :: es).length + ([] : List Keyword).length + (if ([] : List Keyword).isEmpty then 0 else 1) < 30)) = true := by rfl)
    (hline : (apos.endLine == cpos.line) = true := by rfl) (hs : starEach (e :: es) X.env = (false, eval e X.env) :: starEach es X.env := by rfl) (hplain : (backTo cpos (starEach es X.env)).any (·.1) = false := by rfl) :
    PE X (.Call (.Attribute o name apos) (e :: es) [] cpos) (tBM X.K T r to t) := by
  intro pins s σ H Q I h
  refine wpAny_Call_method_late hbase hfew hline rfl (thn (ho pins s σ H _ I h) fun v s1 ⟨x, H1, I1, r1, ty, q1⟩ => ?_)
  obtain ⟨h1, h2⟩ := tyV_is I1 r1 ty
  refine ⟨T, id, pa, slot, hty, h1, h2, ?_⟩
  have hA := ha cpos pins s1 σ H1 _ I1 q1
  rw [hs] at hA ⊢
  refine Calls.callWith_builtin (by show (false || (backTo cpos (starEach es X.env)).any (·.1)) = false; rw [hplain] <;> rfl) (Calls.evalArgs_plain ?_)
  exact thn hA fun us s2 ⟨vs, H2, I2, r2, q2⟩ => hm pins s2 σ H2 x vs v us Q I2 r1 r2 q2
/- xs.append(e), list.index on a module's tuple .. are MtR facts of 06m -/
end
end L2

namespace L2
open PySem PySem.Spec PyProof.Rows

def MtM (X : Cx) (id : String) (r : V → List V → Hp → VK → Prop) : Prop :=
  ∀ (pins : List (Addr × Obj)) (s : Shared) (σ : St) (H : Hp) (x : V) (xs : List V) (v : Value) (us : List Value) (Q : VK), Inv X pins σ H s → RelV x v → Vals xs us → r x xs H Q →
    wpAny (model X.prog X.w) X.A (call (.builtin id) (v :: us)) (EP X pins σ Q) X.xe s

/-! ### lists of values -/
theorem Vals.one : ∀ {x : V} {us : List Value}, Vals [x] us → ∃ u, us = [u] ∧ RelV x u
  | _, _, .cons r .nil => ⟨_, rfl, r⟩
theorem Vals.two : ∀ {x y : V} {us : List Value}, Vals [x, y] us → ∃ u v, us = [u, v] ∧ RelV x u ∧ RelV y v
  | _, _, _, .cons r (.cons q .nil) => ⟨_, _, rfl, r, q⟩
theorem Vals.zero : ∀ {us : List Value}, Vals [] us → us = []
  | _, .nil => rfl
theorem Vals.eraseIdx : ∀ {xs : List V} {us : List Value} (i : Nat), Vals xs us → Vals (xs.eraseIdx i) (us.eraseIdx i)
  | _, _, _, .nil => .nil
  | _, _, 0, .cons _ t => t
  | _, _, i + 1, .cons r t => .cons r (Vals.eraseIdx i t)
theorem Vals.rep {xs : List V} {us : List Value} (h : Vals xs us) : ∀ k : Nat, Vals (List.replicate k xs).flatten (List.replicate k us).flatten
  | 0 => .nil
  | k + 1 => by
    rw [List.replicate_succ, List.replicate_succ, List.flatten_cons, List.flatten_cons]
    exact Vals.append h (Vals.rep h k)
theorem len_erase {α : Type} : ∀ (l : List α) (i : Nat), (l.eraseIdx i).length ≤ l.length
  | [], _ => Nat.le_refl _
  | _ :: _, 0 => Nat.le_succ _
  | _ :: r, i + 1 => Nat.succ_le_succ (len_erase r i)
theorem foldl_rep (its : List Value) : ∀ (k : Nat) (acc : List Value),
    List.foldl (fun x1 x2 => x1 ++ x2) acc.toArray (List.replicate k its.toArray) = (acc ++ (List.replicate k its).flatten).toArray
  | 0, acc => by simp
  | k + 1, acc => by
    have e : acc.toArray ++ its.toArray = (acc ++ its).toArray := by simp
    have e2 : (acc ++ its) ++ (List.replicate k its).flatten = acc ++ (List.replicate (k + 1) its).flatten := by
      rw [List.replicate_succ, List.flatten_cons, List.append_assoc]
    rw [← e2, ← foldl_rep its k (acc ++ its), ← e, List.replicate_succ, List.foldl_cons]

section
variable {X : Cx} {pins : List (Addr × Obj)} {σ : St} {H : Hp} {s : Shared} {l b : Addr} {xs ys zs : List V}

/-! ### the two steps: a tracked list is rewritten, a new list is laid -/
theorem Inv.lset {its its' : List Value} {n : Nat} {f : Array Value → Array Value} {t' : Nat} (I : Inv X pins σ H s) (hH : H l = some (.lst xs))
    (e : s.heap.get? l = some { cls := .type "list", data := .seq its.toArray n }) (hf : f its.toArray = its'.toArray) (hv : Vals ys its') (hz : ys.length ≤ sizeLine) :
    Inv X pins σ (upd H l (.lst ys)) { s with heap := s.heap.update l (Obj.mapSeq f), toks := t' } := by
  have q := PySem.IsL.update e f
  rw [hf] at q
  refine I.write (x := l) (e := l) (by rw [hH]; exact trivial) (.inl rfl) (fun b' u hb hu => (Heap.get?_update_other s.heap (Obj.mapSeq f) (Ne.symm hb)).trans hu) ⟨_, q⟩ ?_
  exact ⟨hz, its', _, hv, q⟩
theorem Inv.lnew {its : List Value} {t' : Nat} (I : Inv X pins σ H s) (hv : Vals ys its) (hz : ys.length ≤ sizeLine) :
    Inv X pins σ (upd H s.heap.objs.size (.lst ys)) { s with heap := s.heap.push { cls := .type "list", data := .seq its.toArray }, toks := t' } :=
  I.laid (fun _ _ q => Heap.get?_push_of_some _ q) (Nat.le_refl _) ⟨hz, its, 0, hv, Heap.get?_push_size _ rfl⟩
theorem Inv.fresh (I : Inv X pins σ H s) : H s.heap.objs.size = none := I.hok.fresh (Nat.le_refl _)
theorem Inv.lstM (I : Inv X pins σ H s) (hH : H l = some (.lst xs)) : xs.length ≤ sizeLine ∧ ∃ (its : List Value) (n : Nat), Vals xs its ∧ xs.length = its.length ∧ s.heap.get? l = some { cls := .type "list", data := .seq its.toArray n } := by
  obtain ⟨z, its, n, r, e⟩ := I.hok l _ hH
  exact ⟨z, its, n, r, r.length, e⟩

theorem notLongL {n : Nat} (h : n ≤ sizeLine) : Builtin.List.listTooLong n = false := by
  unfold Builtin.List.listTooLong
  exact decide_eq_false (by omega)
end

section
variable {X : Cx}

/-! ### methods -/
def rAppend : V → List V → Hp → VK → Prop := fun x vs H Q => ∃ l xs y, x = .ref l ∧ vs = [y] ∧ H l = some (.lst xs) ∧ xs.length < sizeLine ∧ Q .non (upd H l (.lst (xs ++ [y])))
theorem mt_append : MtM X "list.append" rAppend := by
  intro pins s σ H x vs v us Q I rx rv h
  obtain ⟨l, xs, y, rfl, rfl, hH, hz, q⟩ := h
  cases rx
  obtain ⟨u, rfl, ru⟩ := rv.one
  obtain ⟨z, its, n, r, hl, e⟩ := I.lstM hH
  refine call_meets F.slot_list_append ⟨_, e, rfl⟩ F.entry_list_append (F.args_list_append_2 _ _) (PySem.list_append l its.toArray n u (by rw [List.size_toArray]; omega)) ⟨e, ?_⟩
  refine ⟨.non, _, I.lset (its' := its ++ [u]) hH e (by simp) (r.append (.cons ru .nil)) ?_, rfl, q⟩
  rw [List.length_append, List.length_singleton]
  omega

/-! ### list + list, list += list, list * int -/
def rCat : R2 := fun x y H Q => ∃ l b xs zs, x = .ref l ∧ y = .ref b ∧ H l = some (.lst xs) ∧ H b = some (.lst zs) ∧ xs.length + zs.length ≤ sizeLine ∧ ∀ p, H p = none → Q (.ref p) (upd H p (.lst (xs ++ zs)))
theorem op_cat : OpR X (binaryOp .Add) rCat := by
  intro pins s σ H x y v u Q I rx ry h
  obtain ⟨l, b, xs, zs, rfl, rfl, hH, hB, hz, q⟩ := h
  cases rx
  cases ry
  obtain ⟨z, its, n, r, hl, e⟩ := I.lstM hH
  obtain ⟨z2, its2, n2, r2, hl2, e2⟩ := I.lstM hB
  refine PySem.P.add_list e e2 ?_ (by rw [List.size_toArray, List.size_toArray]; omega)
  have ea : its.toArray ++ its2.toArray = (its ++ its2).toArray := by simp
  rw [ea]
  exact ⟨.ref _, _, I.lnew (t' := s.toks) (r.append r2) (by rw [List.length_append]; omega), rfl, q _ I.fresh⟩
/-- a list times an int (a negative one is nothing) -/
def rRep : R2 := fun x y H Q => ∃ l k xs, x = .ref l ∧ y = .int k ∧ H l = some (.lst xs) ∧ -(2 ^ 63) ≤ k ∧ k < 2 ^ 63 ∧ xs.length * k.toNat ≤ sizeLine ∧
  ∀ p, H p = none → Q (.ref p) (upd H p (.lst (List.replicate k.toNat xs).flatten))
theorem len_rep {α : Type} (xs : List α) (k : Nat) : (List.replicate k xs).flatten.length = k * xs.length := by
  induction k with
  | zero => simp
  | succ k ih => rw [List.replicate_succ, List.flatten_cons, List.length_append, ih, Nat.succ_mul, Nat.add_comm]
theorem op_rep : OpR X (binaryOp .Mult) rRep := by
  intro pins s σ H x y v u Q I rx ry h
  obtain ⟨l, k, xs, rfl, rfl, hH, h1, h2, hz, q⟩ := h
  cases rx
  obtain ⟨t, rfl⟩ := ry
  obtain ⟨z, its, n, r, hl, e⟩ := I.lstM hH
  have hlen : its.toArray.size * k.toNat ≤ sizeLine := by rw [List.size_toArray, ← hl]; exact hz
  have hcap : ¬ its.toArray.size * k.toNat > (2 ^ 63 - 1) / 8 := by
    have : (sizeLine : Nat) ≤ (2 ^ 63 - 1) / 8 := by decide
    omega
  have hfit : ¬ (!Builtin.List.listFitsIndex k) = true := by
    rw [fitsIndex_both h1 h2]
    exact Bool.false_ne_true
  have hlong : ¬ Builtin.List.listTooLong (its.toArray.size * k.toNat) = true := by
    rw [notLongL hlen]
    exact Bool.false_ne_true
  have hnew : List.foldl (fun x1 x2 => x1 ++ x2) #[] (List.replicate (if its.toArray.isEmpty = true then 0 else k.toNat) its.toArray) = (List.replicate k.toNat its).flatten.toArray := by
    have f0 : ∀ m : Nat, List.foldl (fun x1 x2 => x1 ++ x2) #[] (List.replicate m its.toArray) = (List.replicate m its).flatten.toArray := fun m => by
      have := foldl_rep its m []
      rw [List.nil_append] at this
      exact this
    rw [f0]
    cases its with
    | nil => simp
    | cons a r' => rw [if_neg (by simp)]
  refine wpAny_binaryOp_repeat_ref (T := "list") (U := "int") (by decide) ⟨_, e, rfl⟩ (fun s' => typeIs_int s' k t) noFill_list_mul F.fills_int_mul F.slot_int_rmul repeat_list F.slot_int_index.lookup
    (call_meets F.slot_int_rmul (typeIs_int s k t) F.entry_int_rmul (F.args_int_rmul_2 _ _) (int___rmul___int_list k t l its.toArray n)
      ⟨e, rfl, ⟨_, e, rfl⟩, call_meets F.slot_list_mul ⟨_, e, rfl⟩ F.entry_list_mul (F.args_list_mul_2 _ _) (AutoListH.list___mul___list_int_3 l its.toArray n k t hfit hcap hlong) ⟨e, ?_⟩⟩)
  rw [hnew]
  exact ⟨.ref _, _, I.lnew (t' := s.toks) (r.rep k.toNat) (by rw [len_rep, Nat.mul_comm]; exact hz), rfl, q _ I.fresh⟩

end

/-! ### xs[a:b] = ys -/
section
variable {prog : Program} {w : World} {A : Around} {E : Value → Shared → Prop} {s : Shared}
end

section
variable {X : Cx}
end
end L2

namespace Att
open PySem PySem.W PySem.Calls PyProof.Rows

/-! ### the script -/
theorem ints_of_wellAll {P : Params} {h : Heap} : ∀ (ns : List Int) (vs : List Value), WellAll P h vs (ns.map WData.int) → IntsAre vs ns := by
  intro ns
  induction ns with
  | nil =>
    intro vs w
    rw [List.map_nil] at w
    cases w
    exact .nil
  | cons n ns ih =>
    intro vs w
    rw [List.map_cons] at w
    cases w with
    | cons a b =>
      cases a
      exact .cons _ _ (ih _ b)

theorem script_of {l : OpenLaw} {n : Nat} (hn : l.most = some n) {P : Params} {h : Heap} {args : List WData} {vals : List Value}
    (hpre : l.row.toRowW.claim.pre args = true) (hwl : WellAll P h vals args) :
    ∃ a vs ns, vals = [Value.ref a] ∧ args = [WData.list (ns.map WData.int)] ∧ h.get? a = some { cls := .type "list", data := .seq vs.toArray } ∧ IntsAre vs ns ∧ ns.length ≤ n := by
  have hsh : WShape.hasAll [] args [.list .int] = true := (pre_splitW hpre).1
  have hc : l.pre.holds [] { args := args } = true := (pre_splitW hpre).2
  obtain ⟨d, r, rfl, h1, h2⟩ := hasAllW_cons hsh
  obtain rfl := hasAllW_nil h2
  obtain ⟨xs, rfl, h3⟩ := hasW_list h1
  obtain ⟨ns, rfl⟩ := items_int h3
  have hlen : ns.length ≤ n := by
    unfold OpenLaw.pre at hc
    have h4 : (WTm.not (.lt (.lit (.int (n : Int))) (.len (.arg 0)))).holds [] { args := [.list (ns.map .int)] } = true := by
      have h4 := (holds_andW hc).1
      rw [hn] at h4
      exact h4
    have h5 := condW_of h4 (w_not (w_lt w_lit (w_len_list (w_arg rfl))))
    rw [List.length_map] at h5
    refine Nat.le_of_not_lt fun q => ?_
    have q' : (n : Int) < ((ns.length : Nat) : Int) := by omega
    first
      | (rw [decide_eq_true q'] at h5; exact absurd h5 (by decide))
      | (simp at h5; omega)
  cases hwl with
  | cons w1 w2 =>
    cases w2
    cases w1 with
    | list ho hall => exact ⟨_, _, ns, rfl, rfl, ho, ints_of_wellAll ns _ hall, hlen⟩

theorem post_true (l : OpenLaw) (args : List WData) : l.row.toRowW.claim.post args (.bool true) args = true :=
  postW_of (r := l.row.toRowW) (X := (true == true))
    (show WShape.has [] (.bool true) .bool = true by first | rfl | decide | simp [WShape.has, WShape.arms, WShape.armsAll])
    (show (WTm.eq .res (.lit (.bool true))).value [] { args := args, res := some (.bool true), after := args } = some (.bool (true == true)) from w_eq_bool (w_res rfl) w_lit) rfl

/-- the same from a codeAny of the CALL (for a layer whose function contracts speak of calls) -/
theorem attach_call {l : OpenLaw} {n : Nat} {q : Program} {loose : List Str} {XP : (Str → Option Value) → Heap → Prop} {YP : World → Heap → Prop} {d : DefRec}
    (hn : l.most = some n) (hdf : d.params.defaults = [])
    (call : ∀ (w : World) (s₀ s₁ : Shared) (mg mb : Str → Option Value) (fa : Addr) (o : Obj) (pm cd doc : Value) (a : Addr) (vs : List Value) (ns : List Int),
      Ground q loose [] XP w s₀ mg mb s₁.heap → YP w s₁.heap →
      s₁.heap.get? fa = some o → o.data = .func (docDef d.name d.params d.body d.scope pm cd doc) → s₁.heap.CodeRec cd d.name → mg d.name = some (.ref fa) →
      s₁.heap.get? a = some { cls := .type "list", data := .seq vs.toArray } → IntsAre vs ns → ns.length ≤ n → s₁.gens = #[] →
      codeAny (model l.prog w) callerA (.call (.ref fa) ⟨[.ref a], []⟩) (fun r s' => r = .ok (.ret (.bool true)) ∧ OldK s₁.heap s'.heap ∧ s'.os = s₁.os ∧ AllBare s'.gens) s₁) :
    WalkO q loose XP YP l.row.toRowW d [] (fun f vs => PySem.call f vs) := by
  intro w s₀ s₁ mg mb G Y fa o pm cd doc dV kV ho hd hcd hD hmg hg args vals as hpre hlay hrd hwl hlo
  obtain rfl : dV = .none := Dflts.none hD hdf
  obtain rfl : kV = .none := Dflts.noKw hD
  obtain ⟨a, vs, ns, rfl, rfl, hobj, hints, hlen⟩ := script_of hn hpre hwl
  refine enter_call (codeAny_mono (call w s₀ s₁ mg mb fa o pm cd doc a vs ns G Y ho (fd_plain hd) hcd hmg hobj hints hlen hg) fun r s' hq => ?_)
  obtain ⟨rfl, h2, h3, h4⟩ := hq
  exact ⟨.inl ⟨.bool true, .bool true, [], rfl, fun _ => rfl, .bool true, post_true l _, fun _ => ⟨List.Pairwise.nil, fun _ hm => (nomatch hm)⟩⟩, h2, h3, h4⟩

/-! ### rules over ANY heap (no ledger) from facts about the written part K: the library's own take a ledger (News) for what they write -/
section
variable {prog : Program} {w : World} {A : Around} {E : Value → Shared → Prop} {s : Shared} {K : Frag}

def ledger (h : Heap) (L d : Addr) : List (Addr × Obj) := (List.range h.objs.size).filterMap fun a => if a = L ∨ a = d then none else (h.get? a).map fun o => (a, o)
end
end Att

namespace L2
open PySem PySem.Spec PyProof.Rows

theorem vals_ints : ∀ {vs : List Value} {ns : List Int}, IntsAre vs ns → Vals (ns.map V.int) vs
  | _, _, .nil => .nil
  | _, _, .cons n t h => .cons ⟨t, rfl⟩ (vals_ints h)

/-- nothing is tracked but the script, known to the object (or it is an object of the module) -/
def Only (H : Hp) : Prop := ∀ b, H b = none ∨ ∃ o xs, H b = some (.frz o (.lst xs))

/-- THE HEAD: the law's promise, at the heap behind the top. F, the promise of the law's def, may use that base is part of the heap (so K.In base, base.Ns mainGlobals mg stand in Mod) -/
theorem law_call {P : Program} {w : World} {K : PySem.W.Frag} {mg mb : Str → Option Value} {CX : CXT} {k : Nat} {fa a : Addr} {fd : FuncData} {x : Str} {sp : Sp} {s₁ : Shared} {vs : List Value} {ns : List Int}
    (KX : K.In s₁.heap) (hns : s₁.heap.Ns mainGlobals mg) (hb : s₁.heap.Ns builtinsNs mb) (hbb : ∀ x : Str, x ≠ "__name__" → mb x = bootBuiltins x) (hlim : s₁.heap.NoLimit) (hg : s₁.gens = #[])
    (ha : s₁.heap.get? a = some { cls := .type "list", data := .seq vs.toArray }) (hi : IntsAre vs ns) (hl : ns.length ≤ sizeLine) (hr : Room k callerA)
    (F : ∀ base : Heap, K.In base → base.Ns mainGlobals mg → FnOk P w K mg base CX k fa fd [x] sp) (hbind : ∀ (s : Shared) (u : Value), BindsTo s fd ⟨[u], []⟩ [(x, u)])
    (hsp : ∀ H : Hp, Only H → SqL K H a (ns.map V.int) → sp [.ref a] H (fun v _ => v = .bl true) fun _ _ _ => False)
    (hCX : ∀ H e s', CX [] H s₁ (fun _ _ _ => False) e s' → False) :
    codeAny (model P w) callerA (.call (.ref fa) ⟨[.ref a], []⟩) (fun r s' => r = .ok (.ret (.bool true)) ∧ OldK s₁.heap s'.heap ∧ s'.os = s₁.os ∧ AllBare s'.gens) s₁ := by
  have rv := vals_ints hi
  have lenV := hi.length
  -- from an abstract heap in which nothing but the script may be tracked
  have core : ∀ H : Hp, Only H → SqL K H a (ns.map V.int) → HOk P w H s₁.heap → (∀ b, H b ≠ none → b = a) → (H a ≠ none → K.lookup a = none) →
      codeAny (model P w) callerA (.call (.ref fa) ⟨[.ref a], []⟩) (fun r s' => r = .ok (.ret (.bool true)) ∧ OldK s₁.heap s'.heap ∧ s'.os = s₁.os ∧ AllBare s'.gens) s₁ := by
    intro H hO hS hok hA hK
    have base_of : ∀ {b : Addr} {o : Obj}, s₁.heap.get? b = some o → H b = none → (hidT s₁.heap H).get? b = some o := fun e n => hidT_get e n
    have noA : ∀ {b : Addr} {o : Obj} {es : Array DictEntry} {ep : Nat}, s₁.heap.get? b = some o → o.data = .dict es ep → H b = none := fun {b o es ep} e d => by
      cases q : H b with
      | none => rfl
      | some u =>
        have e' : b = a := hA b (by rw [q]; simp)
        subst e'
        rw [ha] at e; cases e
        have d' : Data.seq vs.toArray _ = Data.dict es ep := d
        cases d'
    have nsK : ∀ {b : Addr} {m : Str → Option Value}, s₁.heap.Ns b m → (hidT s₁.heap H).Ns b m := fun {b m} ⟨o, es, ep, e, d, r⟩ => ⟨o, es, ep, base_of e (noA e d), d, r⟩
    have hKb : K.In (hidT s₁.heap H) := fun b o e => base_of (KX b o e) (by
      cases q : H b with
      | none => rfl
      | some u =>
        have e' : b = a := hA b (by rw [q]; simp)
        subst e'
        rw [hK (by rw [q]; simp)] at e; cases e)
    have hM : Mod K mg (hidT s₁.heap H) := ⟨hKb, nsK hns, ⟨mb, nsK hb, hbb⟩, let ⟨mc, h1, h2⟩ := hlim; ⟨mc, nsK h1, h2⟩⟩
    have e0 : Env0 P w K mg (hidT s₁.heap H) callerA [] s₁ H := ⟨rfl, hM, fun b o e => of_hidT e, Nat.le_of_eq (hidT_size _ _), trivial, fun b hb => absurd (show b ∈ ([] : List Addr) from hb) (by simp), hok, .of_eq hg⟩
    refine codeAny_mono ((F _ hKb (nsK hns)).run callerA [] s₁ H ⟨[.ref a], []⟩ [.ref a] [.ref a] _ _ hr e0 (hbind s₁ (.ref a)) (.cons rfl .nil) (hsp H hO hS)) fun r s' h => ?_
    cases r with
    | error e => exact (hCX H e s' h).elim
    | ok fl =>
      cases fl with
      | next => exact False.elim h
      | brk => exact False.elim h
      | cont => exact False.elim h
      | ret u =>
        obtain ⟨v, H', os, bare, un, hok', r', q⟩ := h
        have q' : v = .bl true := q
        subst q'
        obtain rfl : u = Value.bool true := r'
        refine ⟨rfl, OldK.of_keep fun b o e => ?_, os, bare⟩
        cases q : H b with
        | none => exact un.keep b o e q (by intro z; exact absurd (show b ∈ ([] : List Addr) from z) (by simp)) (by simp)
        | some u =>
          rcases hO b with z | ⟨ob, xs, z⟩
          · rw [q] at z; cases z
          · have z2 := un.frzs b ob _ z
            obtain ⟨e1, _⟩ := hok b _ z
            obtain ⟨e2, _⟩ := hok' b _ z2
            rw [e] at e1; cases e1
            exact e2
  cases hk : K.lookup a with
  | some o =>
    -- the script is one of the module's own objects
    have e := KX a o hk
    rw [ha] at e
    cases e
    refine core (fun _ => none) (fun _ => .inl rfl) (.inr ⟨_, vs.toArray, _, hk, rfl, rfl, rfl, by rw [List.size_toArray, lenV]; exact hl, by simpa using rv⟩) (fun b u z => by have z' : (none : Option HO) = some u := z; cases z') (fun b z => absurd rfl z) fun z => absurd rfl z
  | none =>
    refine core (fun b => if b = a then some (.frz { cls := .type "list", data := .seq vs.toArray } (.lst (ns.map V.int))) else none) (fun b => ?_) (.inl (.inr ⟨{ cls := .type "list", data := .seq vs.toArray }, if_pos rfl⟩)) (fun b u z => ?_) (fun b z => ?_) fun _ => hk
    · by_cases hb : b = a
      · exact .inr ⟨_, _, if_pos hb⟩
      · exact .inl (if_neg hb)
    · by_cases hb : b = a
      · have z' := (if_pos hb).symm.trans z
        cases z'
        subst hb
        exact ⟨ha, by rw [List.length_map]; exact hl, vs, _, rv, ha⟩
      · have z' := (if_neg hb).symm.trans z
        cases z'
    · by_cases hb : b = a
      · exact hb
      · exact absurd (if_neg hb) z
end L2

namespace L2
open PySem PySem.Spec PyProof.Rows

/-- the goal that k_head leaves (case hc), from the law's promise. F gives the function object fd (K's own) once, then the promise over every base -/
theorem walk_of {l : PySem.W.OpenLaw} {n k : Nat} {q : Program} {loose : List Str} {XP : (Str → Option Value) → Heap → Prop} {YP : World → Heap → Prop} {d : DefRec} {K : Params → PySem.W.Frag} {CX : World → CXT} {sp : World → Sp} {x : Str}
    (hn : l.most = some n) (hn2 : n ≤ sizeLine) (hdf : d.params.defaults = []) (hr : Room k callerA)
    (hY : ∀ (w : World) (h : Heap), YP w h → (K w.params).In h)
    (F : ∀ (w : World) (mg : Str → Option Value) (fa : Addr) (h : Heap), (K w.params).In h → h.Ns mainGlobals mg → mg d.name = some (.ref fa) →
      ∃ fd : FuncData, (∀ (s : Shared) (u : Value), BindsTo s fd ⟨[u], []⟩ [(x, u)]) ∧
        ∀ base : Heap, (K w.params).In base → base.Ns mainGlobals mg → FnOk l.prog w (K w.params) mg base (CX w) k fa fd [x] (sp w))
    (hsp : ∀ (w : World) (H : Hp) (a : Addr) (ns : List Int), ns.length ≤ n → Only H → SqL (K w.params) H a (ns.map V.int) → sp w [.ref a] H (fun v _ => v = .bl true) fun _ _ _ => False)
    (hCX : ∀ (w : World) (H : Hp) (s : Shared) (e : Value) (s' : Shared), CX w [] H s (fun _ _ _ => False) e s' → False) :
    PySem.W.WalkO q loose XP YP l.row.toRowW d [] (fun f vs => PySem.call f vs) := by
  refine Att.attach_call hn hdf fun w s₀ s₁ mg mb fa o pm cd doc a vs ns G Y ho hd hcd hmg hobj hints hlen hg => ?_
  have KX := hY w _ Y
  obtain ⟨fd, hb, hF⟩ := F w mg fa _ KX G.T.g hmg
  exact law_call KX G.T.g G.T.b G.T.builtins G.T.nolimit hg hobj hints (Nat.le_trans hlen hn2) hr hF hb (fun H hO hS => hsp w H a ns hlen hO hS) fun H e s' => hCX w H s₁ e s'
end L2

/-! SHORT WORDS over the layer: a def of the text, its body, what a loop and a test want. -/
namespace L2
open PySem PySem.Spec PyProof.Rows

def defArgs (s : Stmt) : Arguments := match s with
  | .FunctionDef _ a _ _ _ _ _ _ _ _ => a
  | _ => { posonlyargs := [], args := [], vararg := none, kwonlyargs := [], kw_defaults := [], kwarg := none, defaults := [] }
def defBody (s : Stmt) : List Stmt := match s with
  | .FunctionDef _ _ b _ _ _ _ _ _ _ => b
  | _ => []
def defScope (s : Stmt) : Scope := match s with
  | .FunctionDef _ _ _ _ _ _ sc _ _ _ => sc
  | _ => { kind := .function, names := [], isGenerator := false, isCoroutine := false }

/-! ### no exception leaves a def -/
abbrev CX0 : CXT := fun _ _ _ _ _ _ => False
abbrev E0 : XK := fun _ _ _ => False
theorem pass0 {X : Cx} : Passes CX0 X E0 := fun _ _ _ _ _ _ _ h => h.elim

/-! ### a def (or method) of the text as it stands behind the top -/
structure Fun (K : PySem.W.Frag) (x qual : Str) (st : Stmt) (f : Addr) (fd : FuncData) : Prop where
  ex : ∃ (oc : Value) (od : Option Addr) (kV doc pm : Value) (an : Option Addr) (cdv ct : Value) (osl : Array (Option Value)),
    fd = PySem.W.fnOf x qual (defArgs st) (defBody st) (defScope st) .none kV doc pm an cdv ct ∧ K.lookup f = some ⟨oc, od, .func fd, osl⟩ ∧ PySem.W.codeIn K cdv qual = true
  kp : PySem.W.keepIn K (.ref f) = true
section
variable {P : Program} {w : World} {K : PySem.W.Frag} {mg : Str → Option Value} {base : Heap}
/-- THE RULE for a def: its body as a term of rules, and the reading of that term -/
theorem Fun.ok {x qual : Str} {st : Stmt} {f : Addr} {fd : FuncData} {N ps : List Str} {k : Nat} {sp : Sp} (F : Fun K x qual st f fd) (S : FnScope N ps (defScope st)) (len : ∀ vs H Q E, sp vs H Q E → vs.length = ps.length)
    (hbody : ∀ (cdv : Value) (A : Around) (outer : List Env) (s : Shared) (H : Hp) (vs : List V) (Q : VK) (E : XK), Room k (A.deeper (envOfC qual (defScope st) s.heap.objs.size f cdv)) → sp vs H Q E →
      ∃ t, PSs (cxOf CX0 P w K mg base N qual (defScope st) f cdv A outer s H E).nox (defBody st) t ∧ t { nx := fun _ H' => Q .non H', rt := Q } (start N vs) H) : FnOk P w K mg base CX0 (k + 1) f fd ps sp := by
  obtain ⟨oc, od, kV, doc, pm, an, cdv, ct, osl, rfl, lk, hcd⟩ := F.ex
  refine fn_of lk hcd S len fun A outer s H vs Q E hr hsp => ?_
  obtain ⟨t, h, q⟩ := hbody cdv A outer s H vs Q E hr hsp
  exact ⟨t, h.nox, q⟩
/-- how its arguments bind (no defaults): h is «fun _ _ _ _ _ _ us hl => match us, hl with | [_, _], _ => rfl», one _ a parameter -/
theorem Fun.binds {x qual : Str} {st : Stmt} {f : Addr} {fd : FuncData} {ps : List Str} (F : Fun K x qual st f fd)
    (h : ∀ (kV doc pm : Value) (an : Option Addr) (cdv ct : Value) (us : List Value), us.length = ps.length → bindArgs (PySem.W.fnOf x qual (defArgs st) (defBody st) (defScope st) .none kV doc pm an cdv ct) ⟨us, []⟩ = pure (ps.zip us)) : Binds K fd ps [] := by
  obtain ⟨oc, od, kV, doc, pm, an, cdv, ct, osl, rfl, lk, hcd⟩ := F.ex
  exact .all (h kV doc pm an cdv ct)
theorem fun_mk {x qual : Str} {st : Stmt} {f : Addr} {oc : Value} {od an : Option Addr} {osl : Array (Option Value)} {kV doc pm cdv ct : Value} (l : K.lookup f = some ⟨oc, od, .func (PySem.W.fnOf x qual (defArgs st) (defBody st) (defScope st) .none kV doc pm an cdv ct), osl⟩)
    (c : PySem.W.codeIn K cdv qual = true) (k : PySem.W.keepIn K (.ref f) = true) : Fun K x qual st f (PySem.W.fnOf x qual (defArgs st) (defBody st) (defScope st) .none kV doc pm an cdv ct) := ⟨⟨oc, od, kV, doc, pm, an, cdv, ct, osl, rfl, l, c⟩, k⟩
end
theorem hu_of {A : Around} {k : Nat} (hr : Room k A) : A.units + 1 < cLine := Nat.lt_of_le_of_lt (Nat.add_le_add_left (by decide : 1 ≤ 64) _) hr.units
theorem small1000 {n : Nat} (h : n ≤ 1000) : n < sizeLine := Nat.lt_of_le_of_lt h (by decide)

/-! ### expressions in short: the name that stands in the i-th slot -/
section
variable {X : Cx}
theorem pv (i : Nat) {x : Str} {pos : Pos} (hN : X.N[i]? = some x := by rfl) (hv : Vis X.env.scope x := by first | exact Or.inl rfl | exact Or.inr (Or.inl rfl) | exact Or.inr (Or.inr rfl)) (hd : (x == ("__debug__" : Str)) = false := by decide)
    (hcd : (x == ("__classdict__" : Str)) = false := by decide) : PE X (.Name x pos) (tVar i) := pe_var hN hv hd hcd
end

theorem ite2 {c A B : Prop} [Decidable c] (h1 : c → A) (h2 : ¬ c → B) : if c then A else B := by
  by_cases h : c
  · rw [if_pos h]
    exact h1 h
  · rw [if_neg h]
    exact h2 h
/-! ### heaps -/
/-- all that was tracked is as it was -/
def Same (H H' : Hp) : Prop := ∀ b o, H b = some o → H' b = some o
theorem Same.refl (H : Hp) : Same H H := fun _ _ h => h
theorem Same.trans {H H1 H2 : Hp} (a : Same H H1) (b : Same H1 H2) : Same H H2 := fun c o h => b c o (a c o h)
theorem Same.free {H H' : Hp} (e : Same H H') {l : Addr} (h : H' l = Option.none) : H l = Option.none := by
  cases q : H l with
  | none => rfl
  | some o =>
    rw [e l o q] at h
    cases h
theorem Same.seq {K : PySem.W.Frag} {H H' : Hp} {a : Addr} {xs : List V} (e : Same H H') (h : SqL K H a xs) : SqL K H' a xs := by
  rcases h with (h | ⟨o, h⟩) | h
  · exact .inl (.inl (e _ _ h))
  · exact .inl (.inr ⟨o, e _ _ h⟩)
  · exact .inr h

end L2

namespace L2
open PySem PySem.Spec PyProof.Rows

/-! ### lists of pairs as tables -/
section
variable {κ : Type} [DecidableEq κ]
def valV (kvs : List (κ × V)) (k : κ) : Option V := (kvs.find? fun kv => decide (kv.1 = k)).map (·.2)
/-- in its place, or at the end -/
def putK (kvs : List (κ × V)) (k : κ) (v : V) : List (κ × V) :=
  if (kvs.any fun kv => decide (kv.1 = k)) = true then kvs.map (fun kv => if kv.1 = k then (kv.1, v) else kv) else kvs ++ [(k, v)]
def dropK (kvs : List (κ × V)) (k : κ) : List (κ × V) := kvs.filter fun kv => decide (kv.1 ≠ k)

theorem valV_pos {p : κ × V} {r : List (κ × V)} {k : κ} (e : p.1 = k) : valV (p :: r) k = some p.2 := by simp [valV, List.find?_cons, e]
theorem valV_neg {p : κ × V} {r : List (κ × V)} {k : κ} (e : ¬ p.1 = k) : valV (p :: r) k = valV r k := by simp [valV, List.find?_cons, e]
theorem valV_any (k : κ) : ∀ kvs : List (κ × V), (kvs.any fun kv => decide (kv.1 = k)) = (valV kvs k).isSome
  | [] => rfl
  | p :: r => by
    rw [List.any_cons]
    by_cases e : p.1 = k
    · simp only [valV_pos e, decide_eq_true e, Bool.true_or, Option.isSome_some]
    · rw [valV_neg e, decide_eq_false e, Bool.false_or]; exact valV_any k r
theorem length_putK (kvs : List (κ × V)) (k : κ) (v : V) : (putK kvs k v).length ≤ kvs.length + 1 := by
  unfold putK
  split
  · rw [List.length_map]; omega
  · rw [List.length_append, List.length_cons, List.length_nil]; omega
theorem RelO.isSome_eq {o : Option V} {u : Option Value} (r : RelO o u) : o.isSome = u.isSome := by
  cases o with
  | none => cases u with
    | none => rfl
    | some _ => exact (show False from r).elim
  | some _ => cases u with
    | none => exact (show False from r).elim
    | some _ => rfl
theorem RelO.getD {o : Option V} {u : Option Value} {d : V} {d' : Value} (r : RelO o u) (rd : RelV d d') : RelV (o.getD d) (u.getD d') := by
  cases o with
  | none => cases u with
    | none => exact rd
    | some _ => exact (show False from r).elim
  | some _ => cases u with
    | none => exact (show False from r).elim
    | some _ => exact r

/-- raw tables of the same keys -/
theorem KV.val {kvs : List (κ × V)} {vs : List (κ × Value)} (r : KV kvs vs) (k : κ) : RelO (valV kvs k) (valueAt vs k) := by
  unfold KV at r
  induction r with
  | nil => exact True.intro
  | @cons p q ps qs h t ih =>
    obtain ⟨h1, h2⟩ := h
    by_cases e : p.1 = k
    · have e' : q.1 = k := h1.symm.trans e
      have b : valueAt (q :: qs) k = some q.2 := by simp [valueAt, List.find?_cons, e']
      rw [valV_pos e, b]; exact h2
    · have e' : ¬ q.1 = k := fun z => e (h1.trans z)
      have b : valueAt (q :: qs) k = valueAt qs k := by simp [valueAt, List.find?_cons, e']
      rw [valV_neg e, b]; exact ih
theorem KV.any {kvs : List (κ × V)} {vs : List (κ × Value)} (r : KV kvs vs) (k : κ) : (kvs.any fun kv => decide (kv.1 = k)) = vs.any fun kv => decide (kv.1 = k) := by
  unfold KV at r
  induction r with
  | nil => rfl
  | cons h t ih => rw [List.any_cons, List.any_cons, ih, h.1]
theorem KV.repl {kvs : List (κ × V)} {vs : List (κ × Value)} (r : KV kvs vs) (k : κ) {y : V} {u : Value} (ry : RelV y u) :
    KV (kvs.map fun kv => if kv.1 = k then (kv.1, y) else kv) (vs.map fun kv => if kv.1 = k then (kv.1, u) else kv) := by
  unfold KV at r ⊢
  induction r with
  | nil => exact .nil
  | @cons p q ps qs h t ih =>
    rw [List.map_cons, List.map_cons]
    refine .cons ?_ ih
    obtain ⟨h1, h2⟩ := h
    by_cases e : p.1 = k
    · rw [if_pos e, if_pos (h1.symm.trans e)]; exact ⟨h1, ry⟩
    · rw [if_neg e, if_neg (fun z => e (h1.trans z))]; exact ⟨h1, h2⟩
theorem KV.put {kvs : List (κ × V)} {vs : List (κ × Value)} (r : KV kvs vs) (k : κ) {y : V} {u : Value} (ry : RelV y u) : KV (putK kvs k y) (stored vs k u) := by
  unfold putK stored
  rw [r.any k]
  by_cases e : (vs.any fun kv => decide (kv.1 = k)) = true
  · rw [if_pos e, if_pos e]; exact r.repl k ry
  · rw [if_neg e, if_neg e]; exact Paired.snoc r ⟨rfl, ry⟩
theorem KV.drop {kvs : List (κ × V)} {vs : List (κ × Value)} (r : KV kvs vs) (k : κ) : KV (dropK kvs k) (without vs k) := by
  unfold KV at r ⊢
  unfold dropK without
  induction r with
  | nil => exact .nil
  | @cons p q ps qs h t ih =>
    obtain ⟨h1, h2⟩ := h
    rw [List.filter_cons, List.filter_cons]
    by_cases e : p.1 = k
    · have a : ¬ decide (p.1 ≠ k) = true := by simp [e]
      have b : ¬ decide (q.1 ≠ k) = true := by simp [h1.symm.trans e]
      rw [if_neg a, if_neg b]; exact ih
    · have e' : ¬ q.1 = k := fun z => e (h1.trans z)
      have a : decide (p.1 ≠ k) = true := by simp [e]
      have b : decide (q.1 ≠ k) = true := by simp [e']
      rw [if_pos a, if_pos b]; exact .cons ⟨h1, h2⟩ ih
theorem KV.keys {kvs : List (κ × V)} {vs : List (κ × Value)} (r : KV kvs vs) : kvs.map (·.1) = vs.map (·.1) := by
  unfold KV at r
  induction r with
  | nil => rfl
  | cons h t ih => rw [List.map_cons, List.map_cons, ih, h.1]
theorem KV.length {kvs : List (κ × V)} {vs : List (κ × Value)} (r : KV kvs vs) : kvs.length = vs.length := Paired.length r
end


/-! ### a tracked dict, its keys ints and texts or tuples of these -/
theorem kV_is {P : Program} {w : World} {k : Key} {u : Value} (r : RelV (kV k) u) : (mixKind P w).is k u = true := by
  cases k with
  | inl i => obtain ⟨t, e⟩ := (show ∃ t, u = Value.int i t from r); subst e; exact mixKind_int P w i t
  | inr x => obtain ⟨t, e⟩ := (show ∃ t, u = Value.str x t from r); subst e; exact mixKind_str P w x t
theorem items_are {P : Program} {w : World} : ∀ {ks : List Key} {us : List Value}, Vals (ks.map kV) us → ItemsAre (mixKind P w) ks us
  | [], _, r => by rw [List.map_nil] at r; cases r; exact .nil
  | k :: ks, _, r => by
    rw [List.map_cons] at r
    cases r with
    | cons h t => exact .cons (kV_is h) (items_are t)

/-- raw entries of a dict with tuple keys -/
abbrev KT (H : Hp) : List (List Key × V) → List (List Key × Addr × Value) → Prop := Paired fun p q => p.1 = q.1 ∧ H q.2.1 = some (.tup (p.1.map kV)) ∧ RelV p.2 q.2.2
theorem KT.val {H : Hp} {kvs : List (List Key × V)} {xs : List (List Key × Addr × Value)} (r : KT H kvs xs) (k : List Key) : RelO (valV kvs k) ((atKey xs k).map (·.2)) := by
  induction r with
  | nil => exact True.intro
  | @cons p q ps qs h t ih =>
    obtain ⟨h1, _, h2⟩ := h
    by_cases e : p.1 = k
    · have e' : q.1 = k := h1.symm.trans e
      have b : atKey (q :: qs) k = some q.2 := by simp [atKey, List.find?_cons, e']
      rw [valV_pos e, b]; exact h2
    · have e' : ¬ q.1 = k := fun z => e (h1.trans z)
      have b : atKey (q :: qs) k = atKey qs k := by simp [atKey, List.find?_cons, e']
      rw [valV_neg e, b]; exact ih
theorem KT.repl {H : Hp} {kvs : List (List Key × V)} {xs : List (List Key × Addr × Value)} (r : KT H kvs xs) (k : List Key) {y : V} {u : Value} (ry : RelV y u) :
    KT H (kvs.map fun kv => if kv.1 = k then (kv.1, y) else kv) (xs.map (putAt k u)) := by
  induction r with
  | nil => exact .nil
  | @cons p q ps qs h t ih =>
    rw [List.map_cons, List.map_cons]
    refine .cons ?_ ih
    obtain ⟨h1, h2, h3⟩ := h
    unfold putAt
    by_cases e : p.1 = k
    · rw [if_pos e, if_pos (h1.symm.trans e)]; exact ⟨h1, h2, ry⟩
    · rw [if_neg e, if_neg (fun z => e (h1.trans z))]; exact ⟨h1, h2, h3⟩
theorem KT.put {H : Hp} {kvs : List (List Key × V)} {xs : List (List Key × Addr × Value)} (r : KT H kvs xs) (k : List Key) {b : Addr} {y : V} {u : Value} (hb : H b = some (.tup (k.map kV))) (ry : RelV y u) :
    KT H (putK kvs k y) (storedH xs k b u) := by
  have e : (kvs.any fun kv => decide (kv.1 = k)) = (atKey xs k).isSome := by
    rw [valV_any, (r.val k).isSome_eq, Option.isSome_map]
  unfold putK storedH
  rw [e]
  by_cases q : (atKey xs k).isSome = true
  · rw [if_pos q, if_pos q]; exact r.repl k ry
  · rw [if_neg q, if_neg q]; exact Paired.snoc r ⟨rfl, hb, ry⟩
theorem KT.keeps {H H' : Hp} {kvs : List (List Key × V)} {xs : List (List Key × Addr × Value)} (r : KT H kvs xs) (ht : ∀ b ys, H b = some (.tup ys) → H' b = some (.tup ys)) : KT H' kvs xs :=
  Paired.mapP r fun _ _ z => ⟨z.1, ht _ _ z.2.1, z.2.2⟩

section
variable {P : Program} {w : World} {H : Hp} {h : Heap} {a : Addr}
theorem rd_of {u : HO} (ok : HOk P w H h) (e : Rd H a u) : ObjOk P w H h a u := e.ok ok
theorem dk_rd {kvs : List (Key × V)} (ok : HOk P w H h) (e : Rd H a (.dK kvs)) : kvs.length ≤ sizeLine ∧ (a == sysModules) = false ∧ ∃ vs, KV kvs vs ∧ h.DictOf (mixKind P w) a vs :=
  show ObjOk P w H h a (.dK kvs) from rd_of ok e
theorem dk_of {kvs : List (Key × V)} (ok : HOk P w H h) (e : H a = some (.dK kvs)) : kvs.length ≤ sizeLine ∧ (a == sysModules) = false ∧ ∃ vs, KV kvs vs ∧ h.DictOf (mixKind P w) a vs := dk_rd ok (.inl e)
/-- a tracked tuple of ints and texts is a key -/
theorem key_of {ks : List Key} (ok : HOk P w H h) (e : H a = some (.tup (ks.map kV))) : (tupleKind (mixKind P w)).is h ks a := by
  obtain ⟨_, its, r, o, h1, h2, n, h3⟩ := (show ObjOk P w H h a (.tup (ks.map kV)) from ok a _ e)
  exact ⟨o, its.toArray, n, h1, h2, h3, by simpa using items_are r⟩
theorem dt_rd {kvs : List (List Key × V)} (ok : HOk P w H h) (e : Rd H a (.dT kvs)) : kvs.length ≤ sizeLine ∧ (a == sysModules) = false ∧
    ∃ xs, KT H kvs xs ∧ h.DictOfH (tupleKind (mixKind P w)) a xs := by
  obtain ⟨z, y, xs, r, o, es, ep, h1, h2, h3, h4, h5⟩ := (show ObjOk P w H h a (.dT kvs) from rd_of ok e)
  refine ⟨z, y, xs, r, o, es, ep, h1, h2, h3, h4, fun x hx => ?_, h5⟩
  have all : ∀ {l : List (List Key × V)} {m : List (List Key × Addr × Value)}, KT H l m → ∀ x ∈ m, (tupleKind (mixKind P w)).is h x.1 x.2.1 := by
    intro l m q
    induction q with
    | nil => intro x hx; exact nomatch hx
    | @cons p q ps qs hq t ih =>
      intro x hx
      rcases List.mem_cons.mp hx with e | hx
      · subst e
        exact key_of ok (by rw [← hq.1]; exact hq.2.1)
      · exact ih x hx
  exact all r x hx
theorem dt_of {kvs : List (List Key × V)} (ok : HOk P w H h) (e : H a = some (.dT kvs)) : kvs.length ≤ sizeLine ∧ (a == sysModules) = false ∧
    ∃ xs, KT H kvs xs ∧ h.DictOfH (tupleKind (mixKind P w)) a xs := dt_rd ok (.inl e)
end

/-- what the dict at a holds at the key y -/
def DGet (H : Hp) (a : Addr) (y : V) (r : Option V) : Prop :=
  (∃ kvs k, Rd H a (.dK kvs) ∧ y = kV k ∧ r = valV kvs k) ∨ ∃ kvs k b, Rd H a (.dT kvs) ∧ y = .ref b ∧ H b = some (.tup (k.map kV)) ∧ r = valV kvs k
/-- the heap behind a[y] = v -/
def DPut (H : Hp) (a : Addr) (y v : V) (H' : Hp) : Prop :=
  (∃ kvs k, H a = some (.dK kvs) ∧ y = kV k ∧ kvs.length < sizeLine ∧ H' = upd H a (.dK (putK kvs k v))) ∨
  ∃ kvs k b, H a = some (.dT kvs) ∧ y = .ref b ∧ H b = some (.tup (k.map kV)) ∧ kvs.length < sizeLine ∧ H' = upd H a (.dT (putK kvs k v))
theorem DGet.k {H : Hp} {a : Addr} {kvs : List (Key × V)} {k : Key} (e : H a = some (.dK kvs)) : DGet H a (kV k) (valV kvs k) := .inl ⟨kvs, k, .inl e, rfl, rfl⟩
theorem DGet.t {H : Hp} {a b : Addr} {kvs : List (List Key × V)} {k : List Key} (e : H a = some (.dT kvs)) (eb : H b = some (.tup (k.map kV))) : DGet H a (.ref b) (valV kvs k) := .inr ⟨kvs, k, b, .inl e, rfl, eb, rfl⟩
theorem DPut.k {H : Hp} {a : Addr} {kvs : List (Key × V)} {k : Key} {v : V} (e : H a = some (.dK kvs)) (hl : kvs.length < sizeLine) : DPut H a (kV k) v (upd H a (.dK (putK kvs k v))) := .inl ⟨kvs, k, e, rfl, hl, rfl⟩
theorem DPut.t {H : Hp} {a b : Addr} {kvs : List (List Key × V)} {k : List Key} {v : V} (e : H a = some (.dT kvs)) (eb : H b = some (.tup (k.map kV))) (hl : kvs.length < sizeLine) :
    DPut H a (.ref b) v (upd H a (.dT (putK kvs k v))) := .inr ⟨kvs, k, b, e, rfl, eb, hl, rfl⟩


section
variable {X : Cx} {pins : List (Addr × Obj)} {σ : St} {H : Hp} {s : Shared} {a : Addr} {y v : V} {u r : Value} {o : Option V} {A : Around} {E : Value → Shared → Prop}

theorem Inv.big (I : Inv X pins σ H s) : sysModules < s.heap.objs.size := by
  have h : mainGlobals < s.heap.objs.size := (I.mod.glob.keeps I.bk).lt
  exact Nat.lt_trans (by decide) h

/-- d[y], there -/
theorem d_getItem {Q : Value → Shared → Prop} (hu : A.units + 1 < cLine) (I : Inv X pins σ H s) (g : DGet H a y (some v)) (ry : RelV y u) (h : ∀ w' s', Inv X pins σ H s' → RelV v w' → Q w' s') :
    wpAny (model X.prog X.w) A (getItem (.ref a) u) Q E s := by
  rcases g with ⟨kvs, k, e, ey, l⟩ | ⟨kvs, k, b, e, ey, eb, l⟩
  · subst ey
    obtain ⟨z, hd, vs, rel, dd⟩ := dk_rd I.hok e
    obtain ⟨w', hw, rw'⟩ := RelO.some_of (v := v) (o := valueAt vs k) (by rw [l]; exact rel.val k)
    exact wpAny_getItem_of (kV_is ry) dd.mapOf hw (h w' _ (I.tok _) rw')
  · subst ey
    cases (show u = Value.ref b from ry)
    obtain ⟨z, hd, xs, rel, dd⟩ := dt_rd I.hok e
    obtain ⟨w', hw, rw'⟩ := RelO.some_of (v := v) (o := (atKey xs k).map (·.2)) (by rw [l]; exact rel.val k)
    obtain ⟨p, hp, hp2⟩ := Option.map_eq_some_iff.mp hw
    refine wpAny_getItem_heap (tupleKind_room_in1 hu) (key_of I.hok eb) dd hp ?_
    rw [hp2]
    exact h w' _ (I.tok _) rw'
/-- y in d -/
theorem d_in {Q : Value → Shared → Prop} (hu : A.units + 1 < cLine) (I : Inv X pins σ H s) (g : DGet H a y o) (ry : RelV y u) (h : ∀ s', Inv X pins σ H s' → Q (.bool o.isSome) s') :
    wpAny (model X.prog X.w) A (compareOp .In u (.ref a)) Q E s := by
  rcases g with ⟨kvs, k, e, ey, l⟩ | ⟨kvs, k, b, e, ey, eb, l⟩
  · subst ey
    obtain ⟨z, hd, vs, rel, dd⟩ := dk_rd I.hok e
    refine wpAny_in_of (kV_is ry) hd dd.mapOf ?_
    rw [← (rel.val k).isSome_eq, ← l]
    exact h _ (I.tok _)
  · subst ey
    cases (show u = Value.ref b from ry)
    obtain ⟨z, hd, xs, rel, dd⟩ := dt_rd I.hok e
    refine wpAny_in_heap (tupleKind_room_in1 hu) (key_of I.hok eb) hd dd ?_
    have q := (rel.val k).isSome_eq
    rw [Option.isSome_map] at q
    rw [← q, ← l]
    exact h _ (I.tok _)
theorem d_notIn {Q : Value → Shared → Prop} (hu : A.units + 1 < cLine) (I : Inv X pins σ H s) (g : DGet H a y o) (ry : RelV y u) (h : ∀ s', Inv X pins σ H s' → Q (.bool (!o.isSome)) s') :
    wpAny (model X.prog X.w) A (compareOp .NotIn u (.ref a)) Q E s := by
  rcases g with ⟨kvs, k, e, ey, l⟩ | ⟨kvs, k, b, e, ey, eb, l⟩
  · subst ey
    obtain ⟨z, hd, vs, rel, dd⟩ := dk_rd I.hok e
    refine wpAny_notIn_of (kV_is ry) hd dd.mapOf ?_
    rw [← (rel.val k).isSome_eq, ← l]
    exact h _ (I.tok _)
  · subst ey
    cases (show u = Value.ref b from ry)
    obtain ⟨z, hd, xs, rel, dd⟩ := dt_rd I.hok e
    refine wpAny_notIn_heap (tupleKind_room_in1 hu) (key_of I.hok eb) hd dd ?_
    have q := (rel.val k).isSome_eq
    rw [Option.isSome_map] at q
    rw [← q, ← l]
    exact h _ (I.tok _)
/-- a dict's object is replaced -/
theorem d_write {h' : Heap} {t' : Nat} {ob : HO} (I : Inv X pins σ H s) (mu : Mut (H a)) (hs : Heap.SameBut a s.heap h') (he : ∃ q, h'.get? a = some q) (new : ObjOk X.prog X.w (upd H a ob) h' a ob) :
    Inv X pins σ (upd H a ob) { s with heap := h', toks := t' } :=
  I.write (x := a) (e := a) mu (.inl rfl) (fun b q hb z => (hs.2 b hb).trans z) he new
theorem dk_new {P : Program} {w : World} {H' : Hp} {h' : Heap} {kvs : List (Key × V)} {vs : List (Key × Value)} (z : kvs.length ≤ sizeLine) (hd : (a == sysModules) = false) (rel : KV kvs vs) (dd : h'.DictOf (mixKind P w) a vs) :
    ObjOk P w H' h' a (.dK kvs) := ⟨z, hd, vs, rel, dd⟩
/-- d[y] = v -/
theorem d_setItem {H' : Hp} {Q : Unit → Shared → Prop} (hu : A.units + 1 < cLine) (I : Inv X pins σ H s) (g : DPut H a y v H') (ry : RelV y u) (rv : RelV v r) (h : ∀ s', Inv X pins σ H' s' → Q () s') :
    wpAny (model X.prog X.w) A (setItem (.ref a) u r) Q E s := by
  rcases g with ⟨kvs, k, e, ey, l, eH⟩ | ⟨kvs, k, b, e, ey, eb, l, eH⟩
  · subst ey eH
    obtain ⟨z, hd, vs, rel, dd⟩ := dk_of I.hok e
    have hz : vs.length ≤ sizeLine := by rw [← rel.length]; exact z
    have hl : (putK kvs k v).length ≤ sizeLine := by have := length_putK kvs k v; omega
    refine wpAny_setItem_pairs (hsz := hz) (kV_is ry) dd fun h' dd' hs => h _ ?_
    have he : ∃ q, h'.get? a = some q := let ⟨q, _, _, hq, _⟩ := dd'; ⟨q, hq⟩
    exact d_write I (by rw [e]; exact True.intro) hs he (dk_new hl hd (rel.put k rv) dd')
  · subst ey eH
    cases (show u = Value.ref b from ry)
    obtain ⟨z, hd, xs, rel, dd⟩ := dt_of I.hok e
    have hz : xs.length ≤ sizeLine := by rw [← Paired.length rel]; exact z
    have hl : (putK kvs k v).length ≤ sizeLine := by have := length_putK kvs k v; omega
    refine wpAny_setItem_heap (hsz := hz) (tupleKind_room_in1 hu) (key_of I.hok eb) dd fun h' dd' hs => h _ ?_
    obtain ⟨q, es, ep, hq, h2, h3, h4, _, h5⟩ := dd'
    refine d_write I (by rw [e]; exact True.intro) hs ⟨q, hq⟩ ⟨hl, hd, _, (rel.put k eb rv).keeps fun c ys ec => ?_, q, es, ep, hq, h2, h3, h4, h5⟩
    rw [upd_ne (ne_of ec e (fun z => nomatch z))]
    exact ec
end

section
variable {X : Cx} {pins : List (Addr × Obj)} {σ : St} {H : Hp} {s : Shared} {a : Addr} {kvs : List (Key × V)} {k : Key} {u : Value} {A : Around} {E : Value → Shared → Prop}
end


/-! ### readings and rules -/
/-- the element of a subscription, not a slice -/
def NoSl (i : Expr) : Prop := ∀ ov iv, subscripted i false ov iv = operate [ov, iv] (getItem ov iv)
theorem subD_of {prog : Program} {w : World} {A : Around} {E : Value → Shared → Prop} {s : Shared} {env : Env} {value slice : Expr} {pos : Pos} {T id : String} {Q : Value → Shared → Prop}
    (hl : typeLookup (.type T) "__getitem__" = pure (some (.builtin id))) (hs : NoSl slice)
    (h : wpAny (model prog w) A (eval value env) (fun o s₁ => wpAny (model prog w) A (eval slice env) (fun i s₂ => s₂.TypeIs o T ∧ wpAny (model prog w) A (getItem o i) Q E s₂) E s₁) E s) :
    wpAny (model prog w) A (eval (.Subscript value slice pos) env) Q E s := by
  refine Subscript_ (wpAny_mono h (fun o s₁ h₁ => wpAny_mono h₁ (fun i s₂ h₂ => ?_) fun _ _ x => x) fun _ _ x => x)
  obtain ⟨hT, h₂⟩ := h₂
  unfold subscriptTail
  refine wpAny_bind ?_
  rw [getitemInPython_of_ne hT.not_modules]
  refine wpAny_bind (wpAny_specialOf hT hl ?_)
  have fin : wpAny (model prog w) A (subscripted slice false o i) (fun r s₃ => wpAny (model prog w) A (letTemporaryGo value o r >>= fun _ => pure r) Q E s₃) E s₂ := by
    rw [hs o i]
    exact wpAny_operating (wpAny_mono h₂ (fun r s₃ h₃ => wpAny_bind (wpAny_letTemporaryGo (wpAny_pure h₃))) fun _ _ x => x)
  first
    | exact wpAny_pure (wpAny_bind fin)
    | exact wpAny_bind (wpAny_pure (wpAny_bind fin))
    | exact wpAny_bind fin

theorem dict_typeIs {X : Cx} {pins : List (Addr × Obj)} {σ : St} {H : Hp} {s : Shared} {a : Addr} {y : V} {o : Option V} (I : Inv X pins σ H s) (g : DGet H a y o) : s.TypeIs (.ref a) "dict" := by
  rcases g with ⟨kvs, k, e, _, _⟩ | ⟨kvs, k, b, e, _, _, _⟩
  · obtain ⟨_, _, vs, _, dd⟩ := dk_rd I.hok e
    exact dd.typeIs
  · obtain ⟨_, _, xs, _, dd⟩ := dt_rd I.hok e
    exact dd.typeIs
/-- d[y] -/
def tDGet (td ty : TE) : TE := fun σ H Q => td σ H fun x H1 => ty σ H1 fun y H2 => ∃ a v, x = .ref a ∧ DGet H2 a y (some v) ∧ Q v H2
/-- y in d, y not in d -/
def tDIn (ty td : TE) : TE := fun σ H Q => ty σ H fun y H1 => td σ H1 fun x H2 => ∃ a o, x = .ref a ∧ DGet H2 a y o ∧ Q (.bl o.isSome) H2
def tDNotIn (ty td : TE) : TE := fun σ H Q => ty σ H fun y H1 => td σ H1 fun x H2 => ∃ a o, x = .ref a ∧ DGet H2 a y o ∧ Q (.bl (!o.isSome)) H2
/-- d[y] = v -/
def sDPut (td ty tv : TE) : TS := fun D σ H => tv σ H fun v H1 => td σ H1 fun x H2 => ty σ H2 fun y H3 => ∃ a H4, x = .ref a ∧ DPut H3 a y v H4 ∧ D.nx σ H4
section
variable {X : Cx} {o i e value : Expr} {pos pos' tpos : Pos} {td ty tv : TE}
theorem pe_dget (hu : X.A.units + 1 < cLine) (ho : PE X o td) (hi : PE X i ty) (hs : NoSl i) : PE X (.Subscript o i pos) (tDGet td ty) := by
  intro pins s σ H Q I h
  refine subD_of PySem.F.slot_dict_getitem.lookup hs (thn (ho pins s σ H _ I h) fun u s1 ⟨x, H1, I1, rx, q1⟩ => thn (hi pins s1 σ H1 _ I1 q1) fun iv s2 ⟨y, H2, I2, ry, a, v, ex, g, q2⟩ => ?_)
  subst ex
  obtain rfl : u = Value.ref a := rx
  exact ⟨dict_typeIs I2 g, d_getItem hu I2 g ry fun w' s3 I3 rw' => ⟨v, H2, I3, rw', q2⟩⟩
theorem pc_din (hu : X.A.units + 1 < cLine) (hi : PE X i ty) (ho : PE X o td) : PC X .In i o (tDIn ty td) := by
  intro pins s σ H Q I h
  refine thn (hi pins s σ H _ I h) fun iv s1 ⟨y, H1, I1, ry, q1⟩ => thn (ho pins s1 σ H1 _ I1 q1) fun u s2 ⟨x, H2, I2, rx, a, ov, ex, g, q2⟩ => ?_
  subst ex
  obtain rfl : u = Value.ref a := rx
  exact d_in hu I2 g ry fun s3 I3 => ⟨.bl ov.isSome, H2, I3, rfl, q2⟩
theorem pc_dnotin (hu : X.A.units + 1 < cLine) (hi : PE X i ty) (ho : PE X o td) : PC X .NotIn i o (tDNotIn ty td) := by
  intro pins s σ H Q I h
  refine thn (hi pins s σ H _ I h) fun iv s1 ⟨y, H1, I1, ry, q1⟩ => thn (ho pins s1 σ H1 _ I1 q1) fun u s2 ⟨x, H2, I2, rx, a, ov, ex, g, q2⟩ => ?_
  subst ex
  obtain rfl : u = Value.ref a := rx
  exact d_notIn hu I2 g ry fun s3 I3 => ⟨.bl (!ov.isSome), H2, I3, rfl, q2⟩
theorem ps_dput (hu : X.A.units + 1 < cLine) (ho : PE X o td) (hi : PE X i ty) (hv : PE X value tv) (hs : swapsWith value (some (.Subscript o i pos')) pos.line X.env = pure false) :
    PS X (.Assign [.Subscript o i pos'] value pos) (sDPut td ty tv) := by
  intro pins s σ H D I h
  refine wpAny_Assign_Subscript (thn (hv pins s σ H _ I h) fun r s1 ⟨v, H1, I1, rv, q1⟩ => thn (ho pins s1 σ H1 _ I1 q1) fun u s2 ⟨x, H2, I2, rx, q2⟩ => thn (hi pins s2 σ H2 _ I2 q2) fun iv s3 ⟨y, H3, I3, ry, a, H4, ex, g, q3⟩ => ?_) hs
  subst ex
  obtain rfl : u = Value.ref a := rx
  exact d_setItem hu I3 g ry rv fun s4 I4 => ⟨σ, H4, I4, q3⟩
end


/-! ### displays -/
theorem dk_empty {P : Program} {w : World} {H : Hp} (h : Heap) (hb : sysModules < h.objs.size) : ObjOk P w H (h.push { cls := .type "dict", data := .dict #[] }) h.objs.size (.dK []) :=
  ⟨Nat.zero_le _, beq_eq_false_iff_ne.mpr (Ne.symm (Nat.ne_of_lt hb)), [], .nil, Heap.DictOf.new h⟩
/-- {}, to be a dict of the kind that is wanted -/
def tDNewK : TE := fun _ H Q => ∀ p, H p = none → Q (.ref p) (upd H p (.dK []))
section
variable {X : Cx} {pos : Pos}
theorem pe_dnewK : PE X (.Dict [] [] pos) tDNewK := fun pins s σ H Q I h =>
  wpAny_Dict_empty ⟨.ref s.heap.objs.size, _, I.laid (a := s.heap.objs.size) (o := .dK []) (t' := s.toks) (fun _ _ q => Heap.get?_push_of_some _ q) (Nat.le_refl _) (dk_empty s.heap I.big), rfl, h _ (I.hok.fresh (Nat.le_refl _))⟩
end

/-- the pairs of a display, from the left -/
def tPairs : List (TE × TE) → St → Hp → (List (V × V) → Hp → Prop) → Prop
  | [], _, H, Q => Q [] H
  | (tk, tv) :: r, σ, H, Q => tk σ H fun x H1 => tv σ H1 fun y H2 => tPairs r σ H2 fun ps H3 => Q ((x, y) :: ps) H3
abbrev VV : List (V × V) → List (Value × Value) → Prop := Paired fun p q => RelV p.1 q.1 ∧ RelV p.2 q.2
def PPs (X : Cx) (pos : Pos) (keys : List (Option Expr)) (values : List Expr) (trs : List (TE × TE)) : Prop :=
  ∀ (pins : List (Addr × Obj)) (s : Shared) (σ : St) (H : Hp) (Q : List (V × V) → Hp → Prop), Inv X pins σ H s → tPairs trs σ H Q →
    wpAny (model X.prog X.w) X.A (evalPairs (pairTrees keys values X.env pos)) (fun vs s' => ∃ ps H', Inv X pins σ H' s' ∧ VV ps vs ∧ Q ps H') X.xe s
theorem pps_nil {X : Cx} {pos : Pos} : PPs X pos [] [] [] := fun pins s σ H Q I h => pairTrees_nil_walk ⟨[], H, I, .nil, h⟩
theorem pps_cons {X : Cx} {pos : Pos} {k v : Expr} {ks : List (Option Expr)} {vs : List Expr} {tk tv : TE} {trs : List (TE × TE)} (hk : PE X k tk) (hv : PE X v tv) (hr : PPs X pos ks vs trs) :
    PPs X pos (some k :: ks) (v :: vs) ((tk, tv) :: trs) := fun pins s σ H Q I h =>
  pairTrees_cons_walk (thn (hk pins s σ H _ I h) fun u s1 ⟨x, H1, I1, rx, q1⟩ => thn (hv pins s1 σ H1 _ I1 q1) fun w2 s2 ⟨y, H2, I2, ry, q2⟩ =>
    thn (hr pins s2 σ H2 _ I2 q2) fun ws s3 ⟨ps, H3, I3, rel, q3⟩ => ⟨(x, y) :: ps, H3, I3, .cons ⟨rx, ry⟩ rel, q3⟩)

def mergeK (kvs more : List (Key × V)) : List (Key × V) := more.foldl (fun acc kv => putK acc kv.1 kv.2) kvs
theorem KV.merge : ∀ {more : List (Key × V)} {rs : List (Key × Value)} {kvs : List (Key × V)} {vs : List (Key × Value)}, KV more rs → KV kvs vs → KV (mergeK kvs more) (merged vs rs) := by
  intro more rs kvs vs r
  unfold KV at r
  induction r generalizing kvs vs with
  | nil => intro q; exact q
  | @cons p q ps qs h t ih =>
    intro r0
    have e : KV (putK kvs p.1 p.2) (stored vs q.1 q.2) := by
      have := r0.put p.1 h.2
      rw [← h.1]; exact this
    exact ih e
theorem length_mergeK : ∀ (more kvs : List (Key × V)), (mergeK kvs more).length ≤ kvs.length + more.length
  | [], kvs => by show kvs.length ≤ kvs.length + 0; omega
  | p :: r, kvs => by
    have h1 := length_mergeK r (putK kvs p.1 p.2)
    have h2 := length_putK kvs p.1 p.2
    show (mergeK (putK kvs p.1 p.2) r).length ≤ _
    rw [List.length_cons]; omega
theorem carries_of {P : Program} {w : World} : ∀ {kvs : List (Key × V)} {ws : List (Value × Value)}, VV (kvs.map fun kv => (kV kv.1, kv.2)) ws → ∃ rs, Carries (mixKind P w) ws rs ∧ KV kvs rs
  | [], _, r => by rw [List.map_nil] at r; cases r; exact ⟨[], True.intro, .nil⟩
  | p :: kvs, _, r => by
    rw [List.map_cons] at r
    cases r with
    | @cons a b as bs h t =>
      obtain ⟨rs, c, q⟩ := carries_of (P := P) (w := w) t
      obtain ⟨b1, b2⟩ := b
      exact ⟨(p.1, b2) :: rs, ⟨kV_is h.1, rfl, c⟩, .cons ⟨rfl, h.2⟩ q⟩
/-- {k: v, ..} with keys ints and texts; the new dict stands empty while the pairs are made -/
def tDisp (trs : List (TE × TE)) : TE := fun σ H Q => ∀ p, H p = none → tPairs trs σ (upd H p (.dK [])) fun ps H2 => H2 p = some (.dK []) ∧ ∃ kvs : List (Key × V), ps = kvs.map (fun kv => (kV kv.1, kv.2)) ∧ kvs.length ≤ 15 ∧ Q (.ref p) (upd H2 p (.dK (mergeK [] kvs)))
theorem pe_disp {X : Cx} {pos : Pos} {keys : List (Option Expr)} {values : List Expr} {trs : List (TE × TE)} (h : PPs X pos keys values trs) (hall : keys.all (·.isSome) = true) (hl : keys.length = values.length) (h0 : keys ≠ [])
    (h15 : keys.length ≤ 15) : PE X (.Dict keys values pos) (tDisp trs) := by
  intro pins s σ H Q I q
  have hn := I.hok.fresh (Nat.le_refl s.heap.objs.size)
  have I1 := I.laid (a := s.heap.objs.size) (o := .dK []) (h' := s.heap.push { cls := .type "dict", data := .dict #[] }) (t' := s.toks) (fun _ _ q => Heap.get?_push_of_some _ q) (Nat.le_refl _) (dk_empty s.heap I.big)
  refine wpAny_Dict_walk (knd := mixKind X.prog X.w) hall hl h0 h15 (thn (h pins _ σ _ _ I1 (q _ hn)) fun ws s2 ⟨ps, H2, I2, rel, e, kvs, ep, lk, q2⟩ => ?_)
  subst ep
  obtain ⟨rs, c, rk⟩ := carries_of (P := X.prog) (w := X.w) rel
  obtain ⟨z, hd, vs0, r0, dd⟩ := dk_of I2.hok e
  cases r0
  refine ⟨rs, c, dd, fun h' dd' hs => ⟨.ref s.heap.objs.size, _, ?_, rfl, q2⟩⟩
  have hz : (mergeK [] kvs).length ≤ sizeLine := by
    have h1 := length_mergeK kvs []
    rw [List.length_nil] at h1
    rw [sizeLine_eq]; omega
  have he : ∃ q, h'.get? s.heap.objs.size = some q := let ⟨q, _, _, hq, _⟩ := dd'; ⟨q, hq⟩
  exact d_write I2 (by rw [e]; exact True.intro) hs he (dk_new hz hd (rk.merge .nil) dd')


/-! ### methods -/
/-- a method call o.m(e) of a built-in, with one argument: what must be seen of the text -/
structure M1 (X : Cx) (o : Expr) (m : Str) (apos : Pos) (e : Expr) (cpos : Pos) : Prop where
  base : attributeBase o m X.env (eval o X.env) = eval o X.env
  few : ((backTo cpos (starEach [e] X.env)).all (fun x => !x.1) && (backToKw cpos (keywordEach [] X.env)).all (fun x => x.1.isSome)
    && decide (([e] : List Expr).length + ([] : List Keyword).length + (if ([] : List Keyword).isEmpty then 0 else 1) < 30)) = true
  line : (apos.endLine == cpos.line) = true
  trees : backTo cpos (starEach [e] X.env) = [(false, eval e X.env)]
structure M2 (X : Cx) (o : Expr) (m : Str) (apos : Pos) (e f : Expr) (cpos : Pos) : Prop where
  base : attributeBase o m X.env (eval o X.env) = eval o X.env
  few : ((backTo cpos (starEach [e, f] X.env)).all (fun x => !x.1) && (backToKw cpos (keywordEach [] X.env)).all (fun x => x.1.isSome)
    && decide (([e, f] : List Expr).length + ([] : List Keyword).length + (if ([] : List Keyword).isEmpty then 0 else 1) < 30)) = true
  line : (apos.endLine == cpos.line) = true
  trees : backTo cpos (starEach [e, f] X.env) = [(false, eval e X.env), (false, eval f X.env)]

section
variable {X : Cx} {pins : List (Addr × Obj)} {σ : St} {H : Hp} {s : Shared} {a : Addr} {y d : V} {u r : Value} {o : Option V} {A : Around} {E : Value → Shared → Prop}
end

section
variable {X : Cx} {o e f : Expr} {apos cpos : Pos} {td ty tx : TE}
end

/-! ### dict(d): a copy -/
section
variable {X : Cx} {pins : List (Addr × Obj)} {σ : St} {H : Hp} {s : Shared} {a : Addr} {kvs : List (Key × V)} {A : Around} {E : Value → Shared → Prop}
end


section
variable {X : Cx} {pins : List (Addr × Obj)} {σ : St} {H : Hp} {s : Shared} {a : Addr} {y : V} {u : Value} {A : Around} {E : Value → Shared → Prop}
end
end L2
namespace L2
open PySem PySem.Spec PyProof.Rows
section
variable {X : Cx}
end
end L2
namespace L2
open PySem PySem.Spec PyProof.Rows
/-! ### a dict's pairs: keys that differ -/
section
variable {κ : Type} [DecidableEq κ]
end
end L2

namespace L2
open PySem PySem.Spec PyProof.Rows

/-- a comprehension's block -/
def cxC (X : Cx) (scope : Scope) (cl : List (Str × Addr)) (M : List Str) (fp : List Addr) (s : Shared) (H : Hp) : Cx :=
  { X with N := M, s₀ := s, H₀ := H, env := compEnvC scope cl s.heap.objs.size X.env, outer := X.stack, stack := X.stack, ex := fp, fn := fun _ => false, pn := [], xe := fun _ _ => False }

/-- how the block's slots start: kept where the mask is true, the own ones empty -/
def maskS (bs : List Bool) (n : Nat) (σ : St) : St := (bs.zip σ).map (fun p => if p.1 then p.2 else none) ++ List.replicate n none
/-- every value that is known in σ is known in τ -/
def ExtS (σ τ : St) : Prop := ∀ (i : Nat) v, σ[i]? = some (some v) → τ[i]? = some (some v)
theorem ExtS.refl (σ : St) : ExtS σ σ := fun _ _ h => h
theorem ExtS.trans {a b c : St} (h : ExtS a b) (k : ExtS b c) : ExtS a c := fun i v e => k i v (h i v e)
theorem ExtS.put {σ τ : St} {i : Nat} {v : V} (h : ExtS σ τ) (e : σ[i]? = some none) : ExtS σ (τ.set i (some v)) := fun j w q => by
  by_cases hj : i = j
  · subst hj; rw [e] at q; cases q
  · rw [List.getElem?_set_ne hj]; exact h j w q

/-- the comprehension's walk: W holds between two turns; the list that grows stands at acc -/
def CompW (J : It) (acc : Addr) (g : TG) (tt : TT) (te : TE) (σ0 : St) (H1 : Hp) (Q : VK) : Prop := ∃ W : Nat → Nat → Hp → Prop, (∃ m, W 0 m (upd H1 acc (.lst []))) ∧
  ∀ i m H2, W i m H2 → (J.stop i H2 ∧ Q (.ref acc) H2) ∨ (J.go i H2 ∧ ∃ N : Hp → Prop, (∀ H', N H' → ∃ m', m' < m ∧ W (i + 1) m' H') ∧ ∀ x H3, J.yld i H2 x H3 → g x σ0 H3 fun σ4 H4 => (ExtS σ0 σ4 ∧ σ4.length = σ0.length) ∧ tt σ4 H4 fun b H5 =>
    if b = true then te σ4 H5 fun v H6 => ∃ ys, H6 acc = some (.lst ys) ∧ ys.length < sizeLine ∧ N (upd H6 acc (.lst (ys ++ [v]))) else N H5)
def tComp (wi : TI) (bs : List Bool) (n : Nat) (g : TG) (tt : TT) (te : TE) : TE := fun σ H Q => wi σ H fun J H1 => ∀ acc, H1 acc = none → CompW J acc g tt te (maskS bs n σ) H1 Q

/-- the tests of a clause -/
def PTs (X : Cx) (ifs : List Expr) (t : TT) : Prop :=
  ∀ (pins : List (Addr × Obj)) (s : Shared) (σ : St) (H : Hp) (Q : Bool → Hp → Prop), Inv X pins σ H s → t σ H Q →
    wpAny (model X.prog X.w) X.A (forIn ifs true fun c r => if r = true then do let ok ← isTrue c X.env (eval c X.env); pure (ForInStep.yield ok) else pure (ForInStep.yield r)) (TP X pins σ Q) X.xe s
def tYes : TT := fun _ H Q => Q true H
theorem pts_nil {X : Cx} : PTs X [] tYes := fun _ _ _ H _ I h => wpAny_tests_nil ⟨H, I, h⟩
theorem pts_one {X : Cx} {c : Expr} {t : TT} (h : PT X c t) : PTs X [c] t := fun pins s σ H Q I q => wpAny_tests_one (h pins s σ H Q I q)

/-- what the block asks of the scopes -/
structure CompS (X : Cx) (scope : Scope) (cl : List (Str × Addr)) (bs : List Bool) (ext : List Str) : Prop where
  clos : closureFor scope X.env = pure cl
  cell : ∀ y ∈ scope.names, y.2 ≠ .cell
  kind : scope.kind = .function
  names : ∀ y ∈ scope.names, y.2 = .local → scope.names.lookup y.1 = some .local
  sub : ∀ x c, cl.lookup x = some c → X.env.cells.lookup x = some c
  has : ∀ x, ((relabel scope X.env).names.lookup x = some .cell ∨ (relabel scope X.env).names.lookup x = some .free) → ∃ c, cl.lookup x = some c
  len : bs.length = X.N.length
  vis : ∀ (i : Nat) x, X.N[i]? = some x → bs[i]? = some true → Vis (relabel scope X.env) x → (relabel scope X.env).names.lookup x ≠ some .local ∧ (X.env.kindOf x = some .cell ∨ X.env.kindOf x = some .free) ∧ Vis X.env.scope x

theorem maskS_len {bs : List Bool} {n : Nat} {σ : St} (h : bs.length = σ.length) : (maskS bs n σ).length = σ.length + n := by
  unfold maskS; simp [h]
theorem maskS_get {bs : List Bool} {n : Nat} {σ : St} (h : bs.length = σ.length) {i : Nat} {v : V} (e : (maskS bs n σ)[i]? = some (some v)) : i < σ.length ∧ bs[i]? = some true ∧ σ[i]? = some (some v) := by
  unfold maskS at e
  by_cases hi : i < σ.length
  · rw [List.getElem?_append_left (by simp [h]; exact hi), List.getElem?_map] at e
    have hb : i < bs.length := by omega
    rw [List.getElem?_eq_getElem (by simp [h]; exact hi)] at e
    simp only [List.getElem_zip, Option.map_some] at e
    split at e
    · rename_i hb2
      refine ⟨hi, ?_, ?_⟩
      · rw [List.getElem?_eq_getElem hb]; rw [hb2]
      · rw [List.getElem?_eq_getElem hi]; exact e
    · cases e
  · rw [List.getElem?_append_right (by simp [h]; omega), List.getElem?_replicate] at e
    split at e <;> cases e

section
variable {X : Cx} {pins : List (Addr × Obj)} {σ : St} {H : Hp} {s : Shared}
theorem cxC_ok {scope : Scope} {cl : List (Str × Addr)} {bs : List Bool} {ext : List Str} {fp : List Addr} (S : CompS X scope cl bs ext) (I : Inv X pins σ H s) (hf : ∀ b ∈ fp, FpOk X pins H b) (hfs : ∀ b ∈ fp, b < s.heap.objs.size) :
    (cxC X scope cl (X.N ++ ext) fp s H).Ok where
  mod := I.ok.mod
  kind := S.kind
  glob := I.ok.glob
  blt := I.ok.blt
  above := Nat.le_refl _
  inj := fun x y c a b => I.ok.inj x y c (S.sub x c a) (S.sub y c b)
  has := S.has
  cab := fun x c h => nomatch h
  hd := I.ok.hd
  frames := I.ok.frames
  stk := .inl rfl
  exf := fun b hb => ⟨Nat.ne_of_lt (hfs b hb), fun x c e => (hf b hb).2.2.2.2.1 x c (S.sub x c e)⟩
  bs := I.bs
  bsz := Nat.le_trans I.ok.bsz I.sz
  noex := fun b o e hb => by
    rcases (hf b hb).2.2.2.1 with z | z
    · exact I.ok.noex b o e z
    · exact absurd (Nat.lt_of_lt_of_le (Nat.lt_of_lt_of_le (Heap.lt_size e) I.ok.bsz) z) (Nat.lt_irrefl _)
  exfs := fun b hb z => by
    rcases List.mem_cons.mp (I.stkSub b z) with q | q
    · exact (hf b hb).2.1 q
    · exact (hf b hb).2.2.1 q
  funs := I.stack
  frf := I.stkFree

theorem cxC_start {scope : Scope} {cl : List (Str × Addr)} {bs : List Bool} {ext : List Str} {fp : List Addr} {h1 : Heap} {t' : Nat} (S : CompS X scope cl bs ext) (I : Inv X pins σ H s) (hf : ∀ b ∈ fp, FpOk X pins H b) (hfs : ∀ b ∈ fp, b < s.heap.objs.size)
    (hn : h1.Ns s.heap.objs.size (fun _ => none)) (k : ∀ b o, s.heap.get? b = some o → h1.get? b = some o) :
    Inv (cxC X scope cl (X.N ++ ext) fp s H) [] (maskS bs ext.length σ) H { s with heap := h1, toks := t' } := by
  have hl : bs.length = σ.length := S.len.trans I.len.symm
  have cellk : ∀ c v, s.heap.IsCell c v → h1.IsCell c v := fun c v ⟨o, ho, hd⟩ => ⟨o, k c o ho, hd⟩
  refine ⟨cxC_ok S I hf hfs, rfl, I.bare, Un.kept k, ⟨_, hn, fun i x v e1 e2 e3 => ?_⟩, fun x c e => ?_, I.hok.fresh (Nat.le_refl _), fun x c e => I.freeC x c (S.sub x c e), fun p hp => absurd hp (by simp [cxC]), I.hok.kept k, ?_⟩
  · obtain ⟨hi, hb, hs⟩ := maskS_get hl e2
    have e1' : X.N[i]? = some x := by
      have e1'' : (X.N ++ ext)[i]? = some x := e1
      rwa [List.getElem?_append_left (by have := I.len; omega)] at e1''
    obtain ⟨nl, kk, vv⟩ := S.vis i x e1' hb e3
    obtain ⟨m, _, hloc⟩ := I.loc
    obtain ⟨u, r, l⟩ := hloc i x v e1' hs vv
    refine ⟨u, r, .inr ⟨?_, ?_⟩⟩
    · rcases e3 with z | z | z
      · exact absurd z nl
      · exact .inl z
      · exact .inr z
    · have hc := S.has x (by
        rcases e3 with z | z | z
        · exact absurd z nl
        · exact .inl z
        · exact .inr z)
      obtain ⟨c, hc⟩ := hc
      rcases l with ⟨kl, _⟩ | ⟨_, c', hc', hcell⟩
      · rcases kk with z | z <;> (rw [kl] at z; cases z)
      · rw [S.sub x c hc] at hc'
        cases hc'
        exact ⟨c, hc, cellk c _ hcell⟩
  · obtain ⟨v, z⟩ := I.cell x c (S.sub x c e)
    exact ⟨v, cellk c v z⟩
  · rw [maskS_len hl, I.len]; show _ = (X.N ++ ext).length; simp

/-- behind the block -/
theorem cxC_end {scope : Scope} {cl : List (Str × Addr)} {ext : List Str} {fp : List Addr} {σ' : St} {H' : Hp} {s' : Shared} {h' : Heap} {pins' : List (Addr × Obj)} (I : Inv X pins σ H s) (hf : ∀ b ∈ fp, FpOk X pins H b)
    (J : Inv (cxC X scope cl (X.N ++ ext) fp s H) pins' σ' H' s') (sb : Heap.SameBut s.heap.objs.size s'.heap h') : Inv X pins σ H' { s' with heap := h' } := by
  have B : Un (frs X.stack) fp H H' s.heap s'.heap := J.base
  have nC : ∀ b o, s.heap.get? b = some o → b ≠ s.heap.objs.size := fun b o e => Nat.ne_of_lt (Heap.lt_size e)
  refine I.call' (ch := fp) (s' := { s' with heap := h' }) J.os ⟨fun b o e n hb hx => ?_, fun b o e n hb hx => ?_, fun b o e n hx => B.free b o e n hx, fun b o e hx => ?_, B.tups, B.frzs, B.tbls⟩ ?_ J.bare fun b hb => ⟨(hf b hb).2.2.2.1, (hf b hb).2.1, (hf b hb).2.2.2.2.1, (hf b hb).2.2.2.2.2⟩
  · exact sb.extBut b o (nC b o e) (B.keep b o e n hb hx)
  · obtain ⟨sl, q⟩ := B.slot b o e n hb hx
    exact ⟨sl, sb.extBut b _ (nC b o e) q⟩
  · obtain ⟨o', q⟩ := B.there b o e hx
    exact ⟨o', sb.extBut b o' (nC b o e) q⟩
  · intro a o e
    have fr : H' s.heap.objs.size = none := J.free
    refine (J.hok a o e).stay (fun b u hb q => sb.extBut b u ?_ q) (fun _ q => q) fun _ _ q => q
    rcases hb with z | z
    · subst z; intro z; rw [z, fr] at e; cases e
    · intro z2; rw [z2, fr] at z; cases z
end

section
variable {X : Cx} {elt tg iter : Expr} {ifs : List Expr} {scope : Scope} {cl : List (Str × Addr)} {bs : List Bool} {ext : List Str} {pos : Pos} {wi : TI} {g : TG} {tt : TT} {te : TE}
theorem comp_run {use : Option (Value → Sem Unit)} {pins : List (Addr × Obj)} {s : Shared} {σ : St} {H : Hp} {Q : VK} {RR : Value → Shared → Prop} (S : CompS X scope cl bs ext) (hc : X.calm = true) (hi : PI X tg iter wi)
    (hg : ∀ fp s H, PG (cxC X scope cl (X.N ++ ext) fp s H) tg g) (ht : ∀ fp s H, PTs (cxC X scope cl (X.N ++ ext) fp s H) ifs tt) (he : ∀ fp s H, PE (cxC X scope cl (X.N ++ ext) fp s H) elt te)
    (hs : ∀ x, foldedSetIterable iter X.env x = pure x) (I : Inv X pins σ H s) (h : tComp wi bs ext.length g tt te σ H Q) (ep : Pos)
    (hend : ∀ (acc : Addr) (s2 : Shared) (H2 : Hp) (fp : List Addr) (σ' : St) (H' : Hp) (s' : Shared), Inv X pins σ H2 s2 → (∀ b ∈ fp, FpOk X pins H2 b) → Inv (cxC X scope cl (X.N ++ ext) fp s2 H2) [] σ' H' s' → Q (.ref acc) H' →
      compPost (model X.prog X.w) X.A X.xe use RR (.ref acc) s2.heap.objs.size (.ok .next) s') :
    wpAny (model X.prog X.w) X.A (comprehension (.ListComp elt [⟨tg, iter, ifs, 0⟩] scope pos) scope X.env ep (newList []) false (eval iter X.env) use) RR X.xe s := by
  refine wpAny_comprehension_free (use := use) rfl hs S.clos S.kind S.names (thn (hi pins s σ H _ I h) fun v s1 h1 => thn h1 fun itv s2 h2 => ?_)
  obtain ⟨it, fp, tn, J, H2, e, I2, T, st2, f2, hW⟩ := h2
  subst e
  refine wpAny_newList ?_ (by decide)
  have hn2 : H2 s2.heap.objs.size = none := I2.hok.fresh (Nat.le_refl _)
  obtain ⟨W, ⟨m0, w0⟩, turn⟩ := hW s2.heap.objs.size hn2
  have I3 := I2.lnew (its := []) (ys := []) (t' := s2.toks) .nil (Nat.zero_le _)
  generalize hs3 : ({ s2 with heap := s2.heap.push { cls := .type "list", data := .seq ([] : List Value).toArray }, toks := s2.toks } : Shared) = s3 at I3
  have hsz3 : s3.heap.objs.size = s2.heap.objs.size + 1 := by rw [← hs3]; exact Heap.size_push ..
  have k3 : ∀ b o, s2.heap.get? b = some o → s3.heap.get? b = some o := fun b o e => by rw [← hs3]; exact Heap.get?_push_of_some _ e
  have fpo : ∀ b ∈ fp, b < s2.heap.objs.size := fun b hb => by obtain ⟨o, e, _⟩ := T.obj _ _ st2 b hb; exact Heap.lt_size e
  have f3 : ∀ b ∈ fp, FpOk X pins (upd H2 s2.heap.objs.size (.lst [])) b := fun b hb => ⟨by rw [upd_ne (Nat.ne_of_lt (fpo b hb))]; exact (f2 b hb).1, (f2 b hb).2⟩
  have fps : ∀ b ∈ fp, b < s3.heap.objs.size := fun b hb => by rw [hsz3]; exact Nat.lt_succ_of_lt (fpo b hb)
  have st3 : tn 0 s3.heap := T.keep _ _ _ st2 fun b hb o e => k3 b o e
  refine wpAny_newFunctionEnv S.cell (by intro y hy; simp at hy) (fun h4 hns4 hsb4 => ?_) S.kind
  have k4 : ∀ b o, s3.heap.get? b = some o → h4.get? b = some o := fun b o e => hsb4.extBut b o (Nat.ne_of_lt (Heap.lt_size e)) (Heap.get?_push_of_some _ e)
  have I4 := cxC_start (ext := ext) (t' := s3.toks + ([] : List (Str × Value)).length) S I3 f3 fps (h1 := h4) hns4 k4
  have st4 : tn 0 h4 := T.keep _ _ _ st3 fun b hb o e => k4 b o e
  generalize hs4 : ({ s3 with heap := h4, toks := s3.toks + ([] : List (Str × Value)).length } : Shared) = s4 at I4 ⊢
  have st4' : tn 0 s4.heap := by rw [← hs4]; exact st4
  -- the block
  generalize hY : cxC X scope cl (X.N ++ ext) fp s3 (upd H2 s2.heap.objs.size (.lst [])) = Y at I4
  have hYs : ∀ {H' : Hp}, (∀ b ∈ fp, H' b = none) → ∀ b ∈ fp, FpOk Y [] H' b := fun hn b hb => by
    subst hY
    refine ⟨hn b hb, Nat.ne_of_lt (fps b hb), fun z => ?_, .inl hb, fun x c e => (f3 b hb).2.2.2.2.1 x c (S.sub x c e), fun p hp => absurd hp (by simp [cxC])⟩
    rcases List.mem_cons.mp (I3.stkSub b z) with q | q
    · exact (f3 b hb).2.1 q
    · exact (f3 b hb).2.2.1 q
  have hgY : PG Y tg g := by subst hY; exact hg _ _ _
  have htY : PTs Y ifs tt := by subst hY; exact ht _ _ _
  have heY : PE Y elt te := by subst hY; exact he _ _ _
  have hYc : Y.calm = true := by subst hY; exact hc
  have hYm : Y.prog = X.prog ∧ Y.w = X.w ∧ Y.K = X.K ∧ Y.A = X.A ∧ Y.env = compEnvC scope cl s3.heap.objs.size X.env ∧ Y.xe = fun _ _ => False := by subst hY; exact ⟨rfl, rfl, rfl, rfl, rfl, rfl⟩
  obtain ⟨e1, e2, e3, e4, e5, e6⟩ := hYm
  have never : ∀ {α : Type} {t : Sem α} {Q : α → Shared → Prop} {s : Shared} {E : Value → Shared → Prop}, wpAny (model Y.prog Y.w) Y.A t Q Y.xe s → wpAny (model X.prog X.w) X.A t Q E s := fun {α t Q s E} q => by
    rw [e1, e2, e4, e6] at q
    exact wpAny_mono q (fun _ _ z => z) fun _ _ z => z.elim
  have loop : codeAny (model X.prog X.w) X.A (.compLoop (.ListComp elt [⟨tg, iter, ifs, 0⟩] scope pos) 0 (.ref it) (.ref s2.heap.objs.size) (compEnvC scope cl s3.heap.objs.size X.env))
      (compPost (model X.prog X.w) X.A X.xe use RR (.ref s2.heap.objs.size) s3.heap.objs.size) s4 := by
    refine codeAny_loop rfl (fun n s' => ∃ i H', Inv Y [] (maskS bs ext.length σ) H' s' ∧ tn i s'.heap ∧ (∀ b ∈ fp, H' b = none) ∧ W i n H') (fun n s5 hI => ?_) m0 ⟨0, _, I4, st4', fun b hb => (f3 b hb).1, w0⟩
    obtain ⟨i, H5, I5, st5, fr5, w5⟩ := hI
    show wpAny _ X.A ((compTurn (.ListComp elt [⟨tg, iter, ifs, 0⟩] scope pos) 0 (.ref it) (.ref s2.heap.objs.size) (compEnvC scope cl s3.heap.objs.size X.env)).onRaise (fun x => do noteFrame x (compEnvC scope cl s3.heap.objs.size X.env); theTreesLotGoes x)) _ _ s5
    refine wpAny_noted ?_
    rw [compTurn_list]
    rcases turn i n H5 w5 with ⟨stop, qn⟩ | ⟨go, N, hN, step⟩
    · refine wpAny_bind (wpAny_standAt (wpAny_bind ?_))
      have hd := T.done Y e1 e2 e3 hYc i [] s5 _ H5 (fun _ _ => False) I5 (hYs fr5) st5 stop
      rw [e4] at hd
      refine wpAny_mono hd (fun r s6 ⟨hr, I6⟩ => ?_) fun _ _ z => z.elim
      subst hr
      subst hY
      exact wpAny_pure (hend s2.heap.objs.size s3 _ fp _ H5 s6 I3 f3 I6 qn)
    · refine wpAny_bind (wpAny_standAt (wpAny_bind ?_))
      have hd := T.item Y e1 e2 e3 hYc i [] s5 _ H5 (fun _ _ => False) I5 (hYs fr5) st5 go
      rw [e4] at hd
      refine wpAny_mono hd (fun r s6 ⟨u, hr, h6⟩ => ?_) fun _ _ z => z.elim
      subst hr
      refine wpAny_bind (wpAny_mono h6 (fun _ s7 ⟨x, H7, I7, r7, y7, st7, fr7⟩ => ?_) fun _ _ z => z.elim)
      have I7' := I7.pinned (hYs fr7) (T.obj _ _ st7)
      rw [← e5]
      refine wpAny_bind (never (thn (hgY _ s7 _ H7 x u _ I7' r7 (step x H7 y7)) fun _ s8 ⟨σ8, H8, I8, ⟨hx8, hl8⟩, q8⟩ => ?_))
      refine wpAny_bind (never (thn (htY _ s8 σ8 H8 _ I8 q8) fun b s9 ⟨H9, I9, q9⟩ => ?_))
      have again : ∀ {H10 : Hp} {s10 : Shared} {m' : Nat}, Inv Y ([] ++ pinsAt fp s7.heap) σ8 H10 s10 → m' < n → W (i + 1) m' H10 → ∃ m, m < n ∧ ∃ i H', Inv Y [] (maskS bs ext.length σ) H' s10 ∧ tn i s10.heap ∧ (∀ b ∈ fp, H' b = none) ∧ W i m H' := fun {H10 s10 m'} I10 hm w10 => by
        refine ⟨m', hm, i + 1, H10, (I10.unpinned).weak hl8.symm hx8, T.keep _ _ _ st7 fun b hb o e => (I10.pin (b, o) (List.mem_append_right _ (List.mem_append_right _ (mem_pinsAt hb e)))).1, fun b hb => ?_, w10⟩
        obtain ⟨o, e, d⟩ := T.obj _ _ st7 b hb
        exact (I10.pin (b, o) (List.mem_append_right _ (List.mem_append_right _ (mem_pinsAt hb e)))).2.1
      cases b with
      | false =>
        rw [if_neg Bool.false_ne_true] at q9
        obtain ⟨m', hm, w9⟩ := hN _ q9
        exact wpAny_pure ⟨by rw [e5], again I9 hm w9⟩
      | true =>
        rw [if_pos rfl] at q9
        refine wpAny_bind (wpAny_bind (never (thn (heY _ s9 σ8 H9 _ I9 q9) fun xv s10 ⟨y, H10, I10, r10, ys, hys, hz, n10⟩ => ?_)))
        obtain ⟨m', hm, w10⟩ := hN _ n10
        refine wpAny_bind (never (thn (mt_append (X := Y) _ s10 σ8 H10 (.ref s2.heap.objs.size) [y] (.ref s2.heap.objs.size) [xv] (fun _ H => ∃ m', m' < n ∧ W (i + 1) m' H) I10 rfl (.cons r10 .nil) ⟨_, ys, y, rfl, rfl, hys, hz, m', hm, w10⟩) fun _ s11 ⟨_, H11, I11, _, m2, hm2, w11⟩ => ?_))
        exact wpAny_pure (wpAny_pure ⟨by rw [e5], again I11 hm2 w11⟩)
  exact codeAny_compStart_list loop (T.self X.A 0 s4 _ _ st4' loop)

/-- [elt for tg in iter if ..] -/
theorem pe_comp (S : CompS X scope cl bs ext) (hc : X.calm = true) (hi : PI X tg iter wi)
    (hg : ∀ fp s H, PG (cxC X scope cl (X.N ++ ext) fp s H) tg g) (ht : ∀ fp s H, PTs (cxC X scope cl (X.N ++ ext) fp s H) ifs tt) (he : ∀ fp s H, PE (cxC X scope cl (X.N ++ ext) fp s H) elt te)
    (hs : ∀ x, foldedSetIterable iter X.env x = pure x := by intro _; rfl) : PE X (.ListComp elt [⟨tg, iter, ifs, 0⟩] scope pos) (tComp wi bs ext.length g tt te) := by
  intro pins s σ H Q I h
  rw [eval_ListComp]
  refine comp_run (use := none) S hc hi hg ht he hs I h _ fun acc s2 H2 fp σ' H' s' I2 f2 J q => ?_
  obtain ⟨m, hn, _⟩ := J.loc
  exact ⟨m, hn, fun h' sb => ⟨.ref acc, H', cxC_end I2 f2 J sb, rfl, q⟩⟩
/-- x = [elt for ..], where the store goes ahead of the own names' end -/
theorem ps_comp {i : Nat} {x : Str} {pos' spos : Pos} (S : CompS X scope cl bs ext) (hc : X.calm = true) (hN : X.N.Nodup) (hix : X.N[i]? = some x) (hx : X.env.scope.names.lookup x = some .local) (hi : PI X tg iter wi)
    (hg : ∀ fp s H, PG (cxC X scope cl (X.N ++ ext) fp s H) tg g) (ht : ∀ fp s H, PTs (cxC X scope cl (X.N ++ ext) fp s H) ifs tt) (he : ∀ fp s H, PE (cxC X scope cl (X.N ++ ext) fp s H) elt te)
    (hsw : swapsWith (.ListComp elt [⟨tg, iter, ifs, 0⟩] scope pos) (some (.Name x pos')) spos.line X.env = pure true)
    (hs : ∀ x, foldedSetIterable iter X.env x = pure x := by intro _; rfl) : PS X (.Assign [.Name x pos'] (.ListComp elt [⟨tg, iter, ifs, 0⟩] scope pos) spos) (tAsg (tComp wi bs ext.length g tt te) (gName i)) := by
  intro pins s σ H D I h
  rw [exec_Assign_Name_used _ _ _ _ hsw]
  refine wpAny_bind (wpAny_standAt (wpAny_bind ?_))
  show wpAny _ X.A (do let _ ← comprehension (.ListComp elt [⟨tg, iter, ifs, 0⟩] scope pos) scope X.env _ (newList []) false (eval iter X.env) (some (assign (.Name x pos') X.env))) _ _ s
  refine wpAny_bind (wpAny_mono (comp_run (use := some (assign (.Name x pos') X.env)) (RR := fun _ s' => SP X pins D .next s') S hc hi hg ht he hs I h _ fun acc s2 H2 fp σ' H' s' I2 f2 J q => ?_) (fun _ s' hq => wpAny_pure (wpAny_pure hq)) fun _ _ e => e)
  have I5 : Inv X pins σ H' s' := by
    have := cxC_end (h' := s'.heap) I2 f2 J (.refl ..)
    exact this
  show wpAny _ X.A (assign (.Name x pos') X.env (.ref acc)) _ _ s'
  obtain ⟨m, hn, _⟩ := J.loc
  have hCL : s2.heap.objs.size ≠ X.env.locals := Nat.ne_of_gt I2.lt
  have nC : ∀ b o, s2.heap.get? b = some o → b ≠ s2.heap.objs.size := fun b o e => Nat.ne_of_lt (Heap.lt_size e)
  have cC : ∀ y c, X.env.cells.lookup y = some c → c ≠ s2.heap.objs.size := fun y c e => by
    obtain ⟨v, o, ho, _⟩ := I2.cell y c e
    exact nC c o ho
  refine wpAny_assign_Name (store_ok2 I5 hN hix (.inl hx) (v := .ref acc) rfl (fun s6 I6 k6 => ?_) (.inr hx))
  obtain ⟨a, sb6, ha⟩ := k6
  have haC : a ≠ s2.heap.objs.size := by
    rcases ha with z | z
    · rw [z]; exact hCL.symm
    · exact cC x a z
  refine ⟨m, hn.sameBut sb6 haC.symm, fun h' sb => ?_⟩
  refine ⟨_, H', I6.turned (t' := s6.toks) (it := s2.heap.objs.size) (fun b o hb e => sb.extBut b o hb e) ?_ hCL (.inr (Nat.le_trans I2.ok.above (Nat.le_of_lt I2.lt))) cC fun p hp => ?_, q⟩
  · have fr : H' s2.heap.objs.size = none := J.free
    exact fr
  · exact nC p.1 p.2 (I2.pin p hp).1
end
/-! ### the forms one uses -/
theorem comp_list {K : PySem.W.Frag} {a acc : Addr} {xs : List V} {g : TG} {tt : TT} {te : TE} {σ0 : St} {H1 : Hp} {Q : VK} (Pv : Nat → Hp → Prop) (h0 : Pv 0 (upd H1 acc (.lst []))) (hl : ∀ i H, i ≤ xs.length → Pv i H → SqL K H a xs)
    (hs : ∀ i x H, xs[i]? = some x → Pv i H → g x σ0 H fun σ4 H4 => (ExtS σ0 σ4 ∧ σ4.length = σ0.length) ∧ tt σ4 H4 fun b H5 =>
      if b = true then te σ4 H5 fun v H6 => ∃ ys, H6 acc = some (.lst ys) ∧ ys.length < sizeLine ∧ Pv (i + 1) (upd H6 acc (.lst (ys ++ [v]))) else Pv (i + 1) H5)
    (hd : ∀ H, Pv xs.length H → Q (.ref acc) H) : CompW (Itl K a) acc g tt te σ0 H1 Q := by
  refine ⟨fun i m H => m = xs.length - i ∧ i ≤ xs.length ∧ Pv i H, ⟨xs.length, by simp, Nat.zero_le _, h0⟩, ?_⟩
  rintro i m H ⟨rfl, hi, p⟩
  have q := hl i H hi p
  by_cases hlt : i < xs.length
  · refine .inr ⟨⟨xs, xs[i], q, by simp [hlt]⟩, Pv (i + 1), fun H' p' => ⟨xs.length - (i + 1), by omega, rfl, hlt, p'⟩, fun x H' y => ?_⟩
    obtain ⟨e, y⟩ := y
    subst e
    exact hs i x _ (y xs q) p
  · have e : i = xs.length := by omega
    subst e
    exact .inl ⟨⟨xs, q, Nat.le_refl _⟩, hd H p⟩
theorem comp_range {acc : Addr} {lo : Int} {n : Nat} {g : TG} {tt : TT} {te : TE} {σ0 : St} {H1 : Hp} {Q : VK} (Pv : Nat → Hp → Prop) (h0 : Pv 0 (upd H1 acc (.lst [])))
    (hs : ∀ (i : Nat) H, i < n → Pv i H → g (.int (lo + i)) σ0 H fun σ4 H4 => (ExtS σ0 σ4 ∧ σ4.length = σ0.length) ∧ tt σ4 H4 fun b H5 =>
      if b = true then te σ4 H5 fun v H6 => ∃ ys, H6 acc = some (.lst ys) ∧ ys.length < sizeLine ∧ Pv (i + 1) (upd H6 acc (.lst (ys ++ [v]))) else Pv (i + 1) H5)
    (hd : ∀ H, Pv n H → Q (.ref acc) H) : CompW (Itr lo n) acc g tt te σ0 H1 Q := by
  refine ⟨fun i m H => m = n - i ∧ i ≤ n ∧ Pv i H, ⟨n, by simp, Nat.zero_le _, h0⟩, ?_⟩
  rintro i m H ⟨rfl, hi, p⟩
  by_cases hlt : i < n
  · refine .inr ⟨hlt, Pv (i + 1), fun H' p' => ⟨n - (i + 1), by omega, rfl, hlt, p'⟩, fun x H' y => ?_⟩
    obtain ⟨e, y⟩ := y
    subst e y
    exact hs i _ hlt p
  · have e : i = n := by omega
    subst e
    exact .inl ⟨Nat.le_refl _, hd H p⟩
end L2

namespace L2
open PySem PySem.Spec PyProof.Rows

def clOf (env : Env) : List (Str × NameKind) → List (Str × Addr) → List (Str × Addr)
  | [], cs => cs
  | (n, k) :: r, cs => clOf env r (if (k == NameKind.free) = true then (n, (env.cells.lookup n).getD 0) :: cs else cs)
theorem clos_eq {env : Env} (scope : Scope) (h : ∀ p ∈ scope.names, p.2 = .free → ∃ c, env.cells.lookup p.1 = some c) : closureFor scope env = pure (clOf env scope.names []) := by
  unfold closureFor
  generalize ([] : List (Str × Addr)) = cs0
  generalize scope.names = ns at h
  have key : ∀ (ns : List (Str × NameKind)) (cs : List (Str × Addr)), (∀ p ∈ ns, p.2 = .free → ∃ c, env.cells.lookup p.1 = some c) →
      (forIn ns cs fun (x : Str × NameKind) (r : List (Str × Addr)) => (match x with | (name, kind) => if (kind == NameKind.free) = true then do let c ← cellOf env name; pure (ForInStep.yield ((name, c) :: r)) else pure (ForInStep.yield r) : Sem (ForInStep (List (Str × Addr))))) = pure (clOf env ns cs) := by
    intro ns
    induction ns with
    | nil => intro cs _; rfl
    | cons p r ih =>
      intro cs hp
      obtain ⟨n, k⟩ := p
      rw [List.forIn_cons]
      by_cases hk : (k == NameKind.free) = true
      · obtain ⟨c, hc⟩ := hp (n, k) List.mem_cons_self (by simpa using hk)
        have hcell : cellOf env n = pure c := by unfold cellOf; rw [hc]
        simp only [hk, if_true, hcell, pure_bind]
        rw [ih _ fun q hq => hp q (List.mem_cons_of_mem _ hq)]
        have hc' : List.lookup n env.cells = some c := hc
        simp [clOf, hk, hc']
      · simp only [hk, Bool.false_eq_true, if_false, pure_bind]
        rw [ih _ fun q hq => hp q (List.mem_cons_of_mem _ hq)]
        simp [clOf, hk]
  have := key ns cs0 h
  rw [show (do
      let mut cs := cs0
      for (name, kind) in ns do
        if kind == .free then cs := (name, ← cellOf env name) :: cs
      return cs : Sem (List (Str × Addr))) = (forIn ns cs0 fun (x : Str × NameKind) (r : List (Str × Addr)) => (match x with | (name, kind) => if (kind == NameKind.free) = true then do let c ← cellOf env name; pure (ForInStep.yield ((name, c) :: r)) else pure (ForInStep.yield r) : Sem (ForInStep (List (Str × Addr))))) >>= pure from rfl]
  rw [this, pure_bind]
theorem clOf_sub {env : Env} : ∀ (ns : List (Str × NameKind)) (cs : List (Str × Addr)), (∀ p ∈ ns, p.2 = .free → ∃ c, env.cells.lookup p.1 = some c) → (∀ x c, cs.lookup x = some c → env.cells.lookup x = some c) → ∀ x c, (clOf env ns cs).lookup x = some c → env.cells.lookup x = some c
  | [], cs, _, h, x, c, e => h x c e
  | (n, k) :: r, cs, hp, h, x, c, e => by
    refine clOf_sub r _ (fun q hq => hp q (List.mem_cons_of_mem _ hq)) (fun y d e' => ?_) x c e
    split at e'
    · rename_i hk
      obtain ⟨c', hc⟩ := hp (n, k) List.mem_cons_self (by simpa using hk)
      rw [List.lookup_cons] at e'
      have hc' : List.lookup n env.cells = some c' := hc
      rw [hc'] at e'
      split at e'
      · rename_i hy
        have hy' : y = n := by simpa using hy
        subst hy'
        rw [← e']; exact hc'
      · exact h y d e'
    · exact h y d e'
theorem clOf_has {env : Env} : ∀ (ns : List (Str × NameKind)) (cs : List (Str × Addr)) (x : Str), ((x, NameKind.free) ∈ ns ∨ ∃ c, cs.lookup x = some c) → ∃ c, (clOf env ns cs).lookup x = some c
  | [], cs, x, h => by
    rcases h with h | h
    · cases h
    · exact h
  | (n, k) :: r, cs, x, h => by
    refine clOf_has r _ x ?_
    rcases h with h | ⟨c, h⟩
    · rcases List.mem_cons.mp h with h | h
      · injection h with h1 h2
        subst h1 h2
        right
        exact ⟨_, by simp [List.lookup_cons]; rfl⟩
      · exact .inl h
    · right
      split
      · rw [List.lookup_cons]
        split
        · exact ⟨_, rfl⟩
        · exact ⟨c, h⟩
      · exact ⟨c, h⟩
def compChk (scope : Scope) (env : Env) (N : List Str) (bs : List Bool) : Bool :=
  scope.names.all (fun p => p.2 != .cell) && (scope.kind == .function) && scope.names.all (fun p => p.2 != .local || scope.names.lookup p.1 == some .local) && (bs.length == N.length)
    && scope.names.all (fun p => p.2 != .free || (env.kindOf p.1 == some .cell || env.kindOf p.1 == some .free)) && (N.zip bs).all (fun p => !p.2 || scope.names.lookup p.1 == some .free)
theorem mem_of_lookup {β : Type} {x : Str} {b : β} : ∀ {l : List (Str × β)}, l.lookup x = some b → (x, b) ∈ l
  | [], h => by simp at h
  | (y, c) :: r, h => by
    rw [List.lookup_cons] at h
    split at h
    · rename_i hy
      have : x = y := by simpa using hy
      subst this; cases h; exact List.mem_cons_self
    · exact List.mem_cons_of_mem _ (mem_of_lookup h)
theorem lookup_relabel' {env : Env} : ∀ {names : List (Str × NameKind)} {x : Str} {k : NameKind},
    (names.map fun (n, k) => if (k == NameKind.free && env.scope.kind == .function && env.kindOf n == some .cell) then (n, NameKind.cell) else (n, k)).lookup x = some k → names.lookup x = some k ∨ (k = .cell ∧ names.lookup x = some .free)
  | [], _, _, h => by simp at h
  | (n, k') :: r, x, k, h => by
    have ih := @lookup_relabel' env r x k
    have h' : List.lookup x ((if (k' == NameKind.free && env.scope.kind == .function && env.kindOf n == some .cell) = true then (n, NameKind.cell) else (n, k')) :: (r.map fun (n, k) => if (k == NameKind.free && env.scope.kind == .function && env.kindOf n == some .cell) then (n, NameKind.cell) else (n, k))) = some k := h
    by_cases hc : (k' == NameKind.free && env.scope.kind == .function && env.kindOf n == some .cell) = true
    · rw [if_pos hc, List.lookup_cons] at h'
      rw [List.lookup_cons]
      have hf : k' = .free := by
        cases k' <;> first | rfl | (exfalso; revert hc; simp)
      split at h'
      · right
        injection h' with h'
        rw [hf]
        exact ⟨h'.symm, rfl⟩
      · exact ih h'
    · rw [if_neg hc, List.lookup_cons] at h'
      rw [List.lookup_cons]
      split at h'
      · exact .inl h'
      · exact ih h'
theorem CompS.of {X : Cx} {scope : Scope} {bs : List Bool} {ext : List Str} {pins : List (Addr × Obj)} {σ : St} {H : Hp} {s : Shared} (I : Inv X pins σ H s) (h : compChk scope X.env X.N bs = true) : CompS X scope (clOf X.env scope.names []) bs ext := by
  unfold compChk at h
  simp only [Bool.and_eq_true, List.all_eq_true] at h
  obtain ⟨⟨⟨⟨⟨h1, h2⟩, h3⟩, h4⟩, h5⟩, h6⟩ := h
  have hc : ∀ p ∈ scope.names, p.2 = .free → ∃ c, X.env.cells.lookup p.1 = some c := fun p hp hf => by
    have := h5 p hp
    rw [hf] at this
    refine I.ok.has p.1 ?_
    simpa using this
  have nocell : ∀ {x : Str}, scope.names.lookup x ≠ some .cell := fun {x} e => by
    have := h1 _ (mem_of_lookup e)
    simp at this
  refine ⟨clos_eq scope hc, fun y hy => by simpa using h1 y hy, by simpa using h2, fun y hy hl => ?_, fun x c e => clOf_sub scope.names [] hc (fun _ _ z => by simp at z) x c e, fun x hx => ?_, by simpa using h4, fun i x hN hb hv => ?_⟩
  · have := h3 y hy
    rw [hl] at this
    simpa using this
  · refine clOf_has scope.names [] x (.inl ?_)
    rcases hx with hx | hx
    · rcases lookup_relabel' hx with z | ⟨_, z⟩
      · exact absurd z nocell
      · exact mem_of_lookup z
    · rcases lookup_relabel' hx with z | ⟨z, _⟩
      · exact mem_of_lookup z
      · cases z
  · have hz : (x, true) ∈ X.N.zip bs := by
      have : (X.N.zip bs)[i]? = some (x, true) := by
        rw [List.getElem?_zip_eq_some]; exact ⟨hN, hb⟩
      exact List.mem_of_getElem? this
    have hf := h6 _ hz
    have hf : scope.names.lookup x = some .free := by simpa using hf
    have hk := h5 _ (mem_of_lookup hf)
    have hk : X.env.kindOf x = some .cell ∨ X.env.kindOf x = some .free := by simpa using hk
    refine ⟨fun z => ?_, hk, ?_⟩
    · rcases lookup_relabel' z with q | ⟨q, _⟩
      · rw [hf] at q; cases q
      · cases q
    · rcases hk with q | q
      · exact .inr (.inl q)
      · exact .inr (.inr q)

section
variable {X : Cx} {elt tg iter : Expr} {ifs : List Expr} {scope : Scope} {bs : List Bool} {ext : List Str} {pos : Pos} {wi : TI} {g : TG} {tt : TT} {te : TE}
/-- the block's context -/
abbrev cxB (X : Cx) (scope : Scope) (ext : List Str) (fp : List Addr) (s : Shared) (H : Hp) : Cx := cxC X scope (clOf X.env scope.names []) (X.N ++ ext) fp s H
theorem pe_lc (bs : List Bool) (ext : List Str) (hi : PI X tg iter wi) (hg : ∀ fp s H, PG (cxB X scope ext fp s H) tg g) (ht : ∀ fp s H, PTs (cxB X scope ext fp s H) ifs tt) (he : ∀ fp s H, PE (cxB X scope ext fp s H) elt te)
    (hk : compChk scope X.env X.N bs = true := by rfl) (hc : X.calm = true := by rfl) (hs : ∀ x, foldedSetIterable iter X.env x = pure x := by intro _; rfl) :
    PE X (.ListComp elt [⟨tg, iter, ifs, 0⟩] scope pos) (tComp wi bs ext.length g tt te) := fun pins s σ H Q I h => pe_comp (CompS.of I hk) hc hi hg ht he hs pins s σ H Q I h
theorem ps_lc {i : Nat} {x : Str} {pos' spos : Pos} (bs : List Bool) (ext : List Str) (hN : X.N.Nodup) (hix : X.N[i]? = some x) (hx : X.env.scope.names.lookup x = some .local) (hi : PI X tg iter wi) (hg : ∀ fp s H, PG (cxB X scope ext fp s H) tg g) (ht : ∀ fp s H, PTs (cxB X scope ext fp s H) ifs tt) (he : ∀ fp s H, PE (cxB X scope ext fp s H) elt te)
    (hk : compChk scope X.env X.N bs = true := by rfl) (hc : X.calm = true := by rfl)
    (hsw : swapsWith (.ListComp elt [⟨tg, iter, ifs, 0⟩] scope pos) (some (.Name x pos')) spos.line X.env = pure true := by rfl) (hs : ∀ x, foldedSetIterable iter X.env x = pure x := by intro _; rfl) :
    PS X (.Assign [.Name x pos'] (.ListComp elt [⟨tg, iter, ifs, 0⟩] scope pos) spos) (tAsg (tComp wi bs ext.length g tt te) (gName i)) := fun pins s σ H D I h => ps_comp (CompS.of I hk) hc hN hix hx hi hg ht he hsw hs pins s σ H D I h
end
/-! ### floor division by a great number -/
def CDivB (i j : Int) : Prop := 0 < j ∧ j.natAbs.log2 < 9000
theorem noPyl {i j : Int} (h : CDivB i j) : Builtin.divisionGoesByPylong i j = false := PyProof.noPylong_of_log2 h.2
theorem op_fdivB {X : Cx} : OpR X (binaryOp .FloorDiv) (rI CDivB fun i j => .int (i / j)) := opI fun i j _ _ _ _ _ hc q => by
  refine floordiv_int (by have := hc.1; omega) ?_ (.inl (noPyl hc))
  rw [Int.fdiv_eq_ediv_of_nonneg _ (by have := hc.1; omega)]
  exact q
end L2

namespace L2
open PySem PySem.Spec PyProof.Rows
/-! ### readings, as equations -/
section
variable {σ : St} {H : Hp} {Q : VK} {K : PySem.W.Frag} {D : Ends}
theorem rd_I {C : Int → Int → Prop} {g : Int → Int → V} {i j : Int} : rI C g (.int i) (.int j) H Q = (C i j ∧ Q (g i j) H) :=
  propext ⟨fun ⟨_, _, e1, e2, h⟩ => by cases e1; cases e2; exact h, fun h => ⟨i, j, rfl, rfl, h⟩⟩
theorem rd_I0 {g : Int → Int → V} {i j : Int} : rI0 g (.int i) (.int j) H Q = Q (g i j) H :=
  propext ⟨fun ⟨_, _, e1, e2, h⟩ => by cases e1; cases e2; exact h, fun h => ⟨i, j, rfl, rfl, h⟩⟩
theorem rd_U {g : Int → V} {i : Int} : rU g (.int i) H Q = Q (g i) H :=
  propext ⟨fun ⟨_, e1, h⟩ => by cases e1; exact h, fun h => ⟨i, rfl, h⟩⟩
theorem rd_test {t : TE} {R : Bool → Hp → Prop} : tTest t σ H R = t σ H fun x H' => ∃ k, x = .bl k ∧ R k H' := rfl
theorem rd_bl {k : Bool} {R : Bool → Prop} : (∃ k', V.bl k = .bl k' ∧ R k') = R k := propext ⟨fun ⟨_, e, h⟩ => by cases e; exact h, fun h => ⟨k, rfl, h⟩⟩
theorem rd_l1 {i : Int} {R : Int → Prop} : (∃ j, ([V.int i] : List V) = [V.int j] ∧ R j) = R i := propext ⟨fun ⟨_, e, h⟩ => by cases e; exact h, fun h => ⟨i, rfl, h⟩⟩
theorem rd_l2 {a b : Int} {R : Int → Int → Prop} : (∃ i j, ([V.int a, V.int b] : List V) = [V.int i, V.int j] ∧ R i j) = R a b := propext ⟨fun ⟨_, _, e, h⟩ => by cases e; exact h, fun h => ⟨a, b, rfl, h⟩⟩
theorem rd_lr {a : Addr} {R : Addr → List V → Prop} : (∃ p ys, ([V.ref a] : List V) = [V.ref p] ∧ R p ys) = ∃ ys, R a ys := propext ⟨fun ⟨_, ys, e, h⟩ => by cases e; exact ⟨ys, h⟩, fun ⟨ys, h⟩ => ⟨a, ys, rfl, h⟩⟩
theorem upd_old {p x : Addr} {o o' : HO} (hp : H p = none) (h : H x = some o) : upd H p o' x = some o := by rw [upd_ne (ne_of_none h hp)]; exact h
theorem upd_else {p x : Addr} {o o' : HO} (hn : x ≠ p) (h : H x = some o) : upd H p o' x = some o := by rw [upd_ne hn]; exact h
theorem free_upd {p x : Addr} {o' : HO} (h : upd H p o' x = none) : H x = none ∧ x ≠ p := by
  have hx : x ≠ p := fun e => by subst e; rw [upd_same] at h; cases h
  rw [upd_ne hx] at h
  exact ⟨h, hx⟩
theorem Same.upd {H1 : Hp} {p : Addr} {o : HO} (s : Same H H1) (h : H p = none) : Same H (upd H1 p o) := fun b o' e => by
  rw [upd_ne (ne_of_none e h)]; exact s b o' e
theorem ExtS.nl : ExtS [] [] := fun _ _ h => h
theorem ExtS.no {a b : St} {x : Option V} (h : ExtS a b) : ExtS (none :: a) (x :: b) := fun i v e => by
  cases i with
  | zero => simp at e
  | succ i => simpa using h i v (by simpa using e)
theorem ExtS.sm {a b : St} {x : Option V} (h : ExtS a b) : ExtS (x :: a) (x :: b) := fun i v e => by
  cases i with
  | zero => simpa using e
  | succ i => simpa using h i v (by simpa using e)
end
end L2

namespace L2
open PySem PySem.Spec PyProof.Rows
/-! ### a def of the text, as callers use it -/
structure Def (P : Program) (w : World) (K : PySem.W.Frag) (mg : Str → Option Value) (base : Heap) (x : Str) (k : Nat) (ps : List Str) (sp : Sp) : Prop where
  ex : ∃ (f : Addr) (fd : FuncData), mg x = some (.ref f) ∧ PySem.W.keepIn K (.ref f) = true ∧ Binds K fd ps [] ∧ FnOk P w K mg base CX0 k f fd ps sp
section
variable {X : Cx} {x : Str} {k : Nat} {ps : List Str} {sp : Sp} {p pos : Pos} {e : Expr} {es : List Expr} {t : TA}
theorem pe_def (D : Def X.prog X.w X.K X.mg X.base x k ps sp) (hr : Room k X.A) (ha : PA X (e :: es) t) (hg : Gl X x := by rfl) (hdb : (x == ("__debug__" : Str)) = false := by decide) (he : starEach (e :: es) X.env = (false, eval e X.env) :: starEach es X.env := by rfl) (hpl : (backTo pos (starEach es X.env)).any (·.1) = false := by rfl) :
    PE X (.Call (.Name x p) (e :: es) [] pos) (tCall sp [] E0 t) := by
  obtain ⟨f, fd, h1, h2, h3, h4⟩ := D.ex
  exact pe_call h4 hr hg h1 h2 h3 .nil pass0 ha hdb he hpl
end
/-! ### isinstance of one built-in class -/
def rIsi (K : PySem.W.Frag) : List V → Hp → VK → Prop := fun xs H Q => ∃ x n t b, xs = [x, .ty n] ∧ TyOf K H x (.type t) ∧ PySem.W.kitOne K (.type t) (.type n) = some b ∧ Q (.bl b) H
theorem call_isi {X : Cx} : CallR X (.builtin "isinstance") (rIsi X.K) := by
  intro pins s σ H xs us Q I r h
  obtain ⟨x, n, t, b, rfl, ty, e, q⟩ := h
  obtain ⟨u, v, rfl, ru, rv⟩ := vals2 r
  obtain rfl : v = Value.type n := rv
  exact isinst_ok I ru ty e fun tk => ⟨.bl b, H, I.tok tk, rfl, q⟩
/-! ### == through tuples and lists -/
inductive DE (K : PySem.W.Frag) (H : Hp) : Nat → V → V → Bool → Prop
  | flat {n : Nat} {x y : V} : flatV x = true → flatV y = true → DE K H n x y (eqV x y)
  | same {n : Nat} {a : Addr} : DE K H n (.ref a) (.ref a) true
  | tup {n : Nat} {a b : Addr} {xs ys : List V} {e : Nat → Bool} : a ≠ b → SqT K H a xs → SqT K H b ys → (∀ (j : Nat) x y, xs[j]? = some x → ys[j]? = some y → DE K H n x y (e j)) → DE K H (n + 1) (.ref a) (.ref b) ((List.range (min xs.length ys.length)).all e && xs.length == ys.length)
  | lst {n : Nat} {a b : Addr} {xs ys : List V} {e : Nat → Bool} : a ≠ b → SqL K H a xs → SqL K H b ys → xs.length = ys.length → (∀ (j : Nat) x y, xs[j]? = some x → ys[j]? = some y → DE K H n x y (e j)) → DE K H (n + 1) (.ref a) (.ref b) ((List.range xs.length).all e)
  | lstN {n : Nat} {a b : Addr} {xs ys : List V} : a ≠ b → SqL K H a xs → SqL K H b ys → xs.length ≠ ys.length → DE K H (n + 1) (.ref a) (.ref b) false
theorem in1_units {A : Around} : A.in1.units = A.units + 1 := rfl
theorem DE.eqAt {X : Cx} {pins : List (Addr × Obj)} {σ : St} {H : Hp} {s : Shared} (I : Inv X pins σ H s) {n : Nat} {x y : V} {b : Bool} (d : DE X.K H n x y b) : ∀ {A : Around} {u v : Value}, A.units + n < cLine → RelV x u → RelV y v → SeqAt.EqAt A s u v b := by
  induction d with
  | flat f g => intro A u v _ rx ry; exact eqAt_V rx ry f g
  | same =>
    intro A u v _ rx ry
    obtain rfl : u = _ := rx
    obtain rfl : v = _ := ry
    exact SeqAt.EqAt.same _
  | @tup n a b xs ys e ne ha hb _ ih =>
    intro A u v hu rx ry
    obtain rfl : u = Value.ref a := rx
    obtain rfl : v = Value.ref b := ry
    obtain ⟨its, r1, p1, _⟩ := I.tuple ha
    obtain ⟨its2, r2, p2, _⟩ := I.tuple hb
    have := SeqAt.RcAt.tuples (A := A) (e := e) p1 p2 (by omega) fun j h1 h2 => by
      have l1 : j < xs.length := by rw [r1.length]; simpa using h1
      have l2 : j < ys.length := by rw [r2.length]; simpa using h2
      obtain ⟨u1, q1, s1⟩ := r1.get (List.getElem?_eq_getElem l1)
      obtain ⟨u2, q2, s2⟩ := r2.get (List.getElem?_eq_getElem l2)
      have e1 : its.toArray[j] = u1 := by
        have := List.getElem?_eq_some_iff.mp q1
        obtain ⟨_, z⟩ := this
        simpa using z
      have e2 : its2.toArray[j] = u2 := by
        have := List.getElem?_eq_some_iff.mp q2
        obtain ⟨_, z⟩ := this
        simpa using z
      rw [e1, e2]
      exact ih j _ _ (List.getElem?_eq_getElem l1) (List.getElem?_eq_getElem l2) (by rw [in1_units]; omega) s1 s2
    rw [List.size_toArray, List.size_toArray, ← r1.length, ← r2.length] at this
    exact .of_refs ne this
  | @lst n a b xs ys e ne ha hb hl _ ih =>
    intro A u v hu rx ry
    obtain rfl : u = Value.ref a := rx
    obtain rfl : v = Value.ref b := ry
    obtain ⟨its, r1, p1, _⟩ := I.list ha
    obtain ⟨its2, r2, p2, _⟩ := I.list hb
    have := SeqAt.RcAt.lists (A := A) (e := e) p1.isList p2.isList (by simp [← r1.length, ← r2.length, hl]) (by omega) fun j h1 h2 => by
      have l1 : j < xs.length := by rw [r1.length]; simpa using h1
      have l2 : j < ys.length := by rw [r2.length]; simpa using h2
      obtain ⟨u1, q1, s1⟩ := r1.get (List.getElem?_eq_getElem l1)
      obtain ⟨u2, q2, s2⟩ := r2.get (List.getElem?_eq_getElem l2)
      have e1 : its.toArray[j] = u1 := by
        have := List.getElem?_eq_some_iff.mp q1
        obtain ⟨_, z⟩ := this
        simpa using z
      have e2 : its2.toArray[j] = u2 := by
        have := List.getElem?_eq_some_iff.mp q2
        obtain ⟨_, z⟩ := this
        simpa using z
      rw [e1, e2]
      exact ih j _ _ (List.getElem?_eq_getElem l1) (List.getElem?_eq_getElem l2) (by rw [in1_units]; omega) s1 s2
    rw [List.size_toArray, ← r1.length] at this
    exact .of_refs ne this
  | @lstN n a b xs ys ne ha hb hl =>
    intro A u v hu rx ry
    obtain rfl : u = Value.ref a := rx
    obtain rfl : v = Value.ref b := ry
    obtain ⟨its, r1, p1, _⟩ := I.list ha
    obtain ⟨its2, r2, p2, _⟩ := I.list hb
    exact .of_refs ne (SeqAt.RcAt.lists_lengths p1.isList p2.isList (by simp [← r1.length, ← r2.length, hl]) (by omega))
end L2
namespace PySem.SeqAt
open AutoSeq1 (wpAny_loadPart')
open MeetsSeq MeetsSeq2 MeetsSeq3 SeqRoads2
theorem remove_loopAt (l : Addr) (items : Array Value) (n : Nat) (x : Value) (e : Nat → Bool) (j : Nat) (hj : j < items.size) (hit : e j = true) (k : Nat) (hs1 : items.size ≤ sizeLine) :
    ∀ i : Nat, j - i = k → i ≤ j → (∀ m (hm : m < items.size), i ≤ m → m < j → e m = false) → Meets (Builtin.«list.remove.loop» ⟨[.ref l, x, rawInt i], []⟩)
      (fun A R s => s.heap.get? l = some { cls := .type "list", dict := none, data := .seq items n, slots := #[] } ∧ (∀ m (hm : m < items.size), m ≤ j → EqAt A.in1 s items[m] x (e m)) ∧ R (.ok (.ret .none)) { s with heap := s.heap.update l (Obj.mapSeq fun xs => xs.eraseIdxIfInBounds j) }) := by
  induction k with
  | zero =>
    intro i hk hij hno prog w A R s h
    obtain ⟨hp, g, d, tk, os⟩ := s; obtain ⟨hl, he, h⟩ := h
    have hij' : i = j := by omega
    subst hij'
    wp_walk using wpAny_loadPart' hl
    have hi : items[((i : Nat) : Int).toNat]? = some items[i] := by simp [hj]
    rw [hi]
    refine wpAny_bind (he _ hj (Nat.le_refl _) prog w _ _ ?_)
    rw [hit]
    have hz' : (items.eraseIdxIfInBounds i).size ≤ sizeLine + 1 := Nat.le_trans (size_erased items _) (Nat.le_succ_of_le hs1)
    wp_walk using (wpAny_updateSeq hl rfl (hz := hs1) (_hz' := hz')), wpAny_loadPart' hl
    simpa using h
  | succ k ih =>
    intro i hk hij hno prog w A R s h
    obtain ⟨hp, g, d, tk, os⟩ := s; obtain ⟨hl, he, h⟩ := h
    have hlt : i < items.size := by omega
    wp_walk using wpAny_loadPart' hl
    have hi : items[((i : Nat) : Int).toNat]? = some items[i] := by simp [hlt]
    have hc : ((i : Int) + 1) = ((i + 1 : Nat) : Int) := by push_cast; rfl
    rw [hi]
    refine wpAny_bind (he _ hlt (by omega) prog w _ _ ?_)
    rw [hno i hlt (Nat.le_refl _) (by omega)]
    wp_walk
    rw [hc]
    exact ⟨plainId_quiet plain_remove_loop _, codeAny_builtin entry_remove_loop (by
      rw [Around.under_plainId plain_remove_loop _]
      exact ih (i + 1) (by omega) (by omega) (fun m hm h1 h2 => hno m hm (by omega) h2) prog w A R _ ⟨hl, he, h⟩)⟩
theorem list_removeAt (l : Addr) (items : Array Value) (n : Nat) (x : Value) (e : Nat → Bool) (j : Nat) (hj : j < items.size)
    (hit : e j = true) (hno : ∀ m (hm : m < items.size), m < j → e m = false) (hs1 : items.size ≤ sizeLine := by size_fits) :
    Meets (Builtin.«list.remove» ⟨[.ref l, x], []⟩)
      (fun A R s => s.heap.get? l = some { cls := .type "list", dict := none, data := .seq items n, slots := #[] } ∧ (∀ m (hm : m < items.size), m ≤ j → EqAt A.in1 s items[m] x (e m)) ∧ R (.ok (.ret .none)) { s with heap := s.heap.update l (Obj.mapSeq fun xs => xs.eraseIdxIfInBounds j) }) := by
  intro prog w A R s h
  obtain ⟨hp, g, d, tk, os⟩ := s; obtain ⟨hl, he, h⟩ := h
  wp_walk using wpAny_loadPart' hl
  exact ⟨plainId_quiet plain_remove_loop _, codeAny_builtin entry_remove_loop (by
    rw [Around.under_plainId plain_remove_loop _]
    exact remove_loopAt l items n x e j hj hit _ hs1 0 rfl (Nat.zero_le _) (fun m hm _ h2 => hno m hm h2) prog w A R _ ⟨hl, he, h⟩)⟩
end PySem.SeqAt
namespace L2
open PySem PySem.Spec PyProof.Rows
/-- xs.remove(y): the first that equals it goes -/
def rRemove (K : PySem.W.Frag) : V → List V → Hp → VK → Prop := fun x vs H Q => ∃ l xs y j, ∃ e : Nat → Bool, x = .ref l ∧ vs = [y] ∧ H l = some (.lst xs) ∧ j < xs.length ∧ e j = true ∧ (∀ m, m < j → e m = false) ∧ (∀ (m : Nat) z, m ≤ j → xs[m]? = some z → DE K H 20 z y (e m)) ∧ Q .non (upd H l (.lst (xs.eraseIdx j)))
theorem mt_remove {X : Cx} (hu : X.A.units + 64 < cLine) : MtM X "list.remove" (rRemove X.K) := by
  intro pins s σ H x vs v us Q I rx rv h
  obtain ⟨l, xs, y, j, e, rfl, rfl, hH, hj, hit, hno, he, q⟩ := h
  cases rx
  obtain ⟨u, rfl, ru⟩ := rv.one
  obtain ⟨z, its, n, r, hl, eo⟩ := I.lstM hH
  refine call_meets F.slot_list_remove ⟨_, eo, rfl⟩ F.entry_list_remove (F.args_list_remove_2 _ _) (SeqAt.list_removeAt l its.toArray n u e j (by simp; omega) hit (fun m _ hm => hno m hm) (by rw [List.size_toArray]; omega)) ⟨eo, fun m hm hmj => ?_, ?_⟩
  · have l1 : m < xs.length := by rw [hl]; simpa using hm
    obtain ⟨u1, q1, s1⟩ := r.get (List.getElem?_eq_getElem l1)
    have e1 : its.toArray[m] = u1 := by
      have := List.getElem?_eq_some_iff.mp q1
      obtain ⟨_, z⟩ := this
      simpa using z
    rw [e1]
    exact (he m _ hmj (List.getElem?_eq_getElem l1)).eqAt I (by rw [in1_units]; omega) s1 ru
  · refine ⟨.non, _, I.lset (its' := its.eraseIdx j) hH eo (by simp) (r.eraseIdx j) (Nat.le_trans (len_erase _ _) z), rfl, q⟩
/-! ### the built-in names, not bound by the text -/
structure Nms (mg : Str → Option Value) : Prop where
  abs : mg "abs" = none
  len : mg "len" = none
  min : mg "min" = none
  max : mg "max" = none
  sum : mg "sum" = none
  sorted : mg "sorted" = none
  all : mg "all" = none
  any : mg "any" = none
  isinstance : mg "isinstance" = none
  range : mg "range" = none
  int : mg "int" = none
  list : mg "list" = none
  str : mg "str" = none
  bool : mg "bool" = none
  tuple : mg "tuple" = none
  zip : mg "zip" = none
  enumerate : mg "enumerate" = none
  dict : mg "dict" = none
theorem b_abs : bootBuiltins "abs" = some (.builtin "abs") := by decide +kernel
theorem b_len : bootBuiltins "len" = some (.builtin "len") := by decide +kernel
theorem b_min : bootBuiltins "min" = some (.builtin "min") := by decide +kernel
theorem b_all : bootBuiltins "all" = some (.builtin "all") := by decide +kernel
theorem b_isinstance : bootBuiltins "isinstance" = some (.builtin "isinstance") := by decide +kernel
theorem b_range : bootBuiltins "range" = some (.type "range") := by decide +kernel
theorem b_int : bootBuiltins "int" = some (.type "int") := by decide +kernel
theorem b_list : bootBuiltins "list" = some (.type "list") := by decide +kernel
theorem b_str : bootBuiltins "str" = some (.type "str") := by decide +kernel
theorem b_bool : bootBuiltins "bool" = some (.type "bool") := by decide +kernel
theorem b_tuple : bootBuiltins "tuple" = some (.type "tuple") := by decide +kernel
/-! ### sets of addresses -/
/-- all that was tracked, but b, is as it was -/
def SameB (b : Addr) (H H' : Hp) : Prop := ∀ x o, H x = some o → x ≠ b → H' x = some o
theorem SameB.refl (b : Addr) (H : Hp) : SameB b H H := fun _ _ h _ => h
theorem SameB.trans {b : Addr} {H H1 H2 : Hp} (h : SameB b H H1) (k : SameB b H1 H2) : SameB b H H2 := fun x o e n => k x o (h x o e n) n
theorem SameB.of {b : Addr} {H H' : Hp} (h : Same H H') : SameB b H H' := fun x o e _ => h x o e
theorem SameB.upd {b p : Addr} {H H1 : Hp} {o : HO} (s : SameB b H H1) (h : H p = none ∨ p = b) : SameB b H (upd H1 p o) := fun x o' e n => by
  have : x ≠ p := by
    rcases h with h | h
    · exact ne_of_none e h
    · rw [h]; exact n
  rw [upd_ne this]; exact s x o' e n
theorem SameB.free {b : Addr} {H H1 : Hp} (h : SameB b H H1) {o : HO} (hb : H1 b = some o) {p : Addr} (e : H1 p = none) : H p = none := by
  cases q : H p with
  | none => rfl
  | some o' =>
    have : p ≠ b := fun z => by rw [z, hb] at e; cases e
    rw [h p o' q this] at e
    cases e
def rLenL : List V → Hp → VK → Prop := fun vs H Q => ∃ p ys, vs = [.ref p] ∧ H p = some (.lst ys) ∧ Q (.int ys.length) H
theorem call_lenL {X : Cx} : CallR X (.builtin "len") rLenL := by
  intro pins s σ H xs us Q I r h
  obtain ⟨p, ys, e, h, q⟩ := h
  exact call_len_seq pins s σ H xs us Q I r ⟨p, ys, e, .inl (SqL.of h), q⟩
/-! ### steps of a reading -/
section
variable {K : PySem.W.Frag} {H : Hp} {Q : VK} {p : Addr} {xs : List V} {v : V} {i : Int}
theorem ixL_at (h : H p = some (.lst xs)) (e : atI xs i = some v) (q : Q v H) : rIxL K (.ref p) (.int i) H Q := ⟨p, xs, i, v, rfl, rfl, SqL.of h, e, q⟩
theorem ixT_at (h : H p = some (.tup xs)) (e : atI xs i = some v) (q : Q v H) : rIxT K (.ref p) (.int i) H Q := ⟨p, xs, i, v, rfl, rfl, SqT.of h, e, q⟩
theorem at0 {α : Type} {x : α} {l : List α} : atI (x :: l) 0 = some x := atI_nat (j := 0) rfl
theorem at1 {α : Type} {x y : α} {l : List α} : atI (x :: y :: l) 1 = some y := atI_nat (j := 1) rfl
theorem setL_at {j : Nat} {R : Hp → Prop} (h : H p = some (.lst xs)) (e : ixN xs.length i = some j) (q : R (upd H p (.lst (xs.set j v)))) : rSetL (.ref p) (.int i) v H R := ⟨p, xs, i, j, rfl, rfl, h, e, q⟩
theorem eq_at {x y : V} (h : scal x y = true) (q : Q (.bl (decide (x = y))) H) : rEq x y H Q := ⟨h, q⟩
theorem ne_at {x y : V} (h : scal x y = true) (q : Q (.bl (!decide (x = y))) H) : rNe x y H Q := ⟨h, q⟩
theorem len_at (h : H p = some (.lst xs)) (q : Q (.int xs.length) H) : rLenL [.ref p] H Q := ⟨p, xs, rfl, h, q⟩
theorem gTup2_at {σ : St} {x y : V} {i j : Nat} {R : St → Hp → Prop} (h : H p = some (.tup [x, y])) (q : R ((σ.set i (some x)).set j (some y)) H) : gTup K 2 (gCons (gName i) (gCons (gName j) gNil)) (.ref p) σ H R :=
  ⟨p, _, rfl, SqT.of h, rfl, _, _, rfl, _, _, rfl, rfl, q⟩
theorem gTup3_at {σ : St} {x y z : V} {i j k : Nat} {R : St → Hp → Prop} (h : H p = some (.tup [x, y, z])) (q : R (((σ.set i (some x)).set j (some y)).set k (some z)) H) : gTup K 3 (gCons (gName i) (gCons (gName j) (gCons (gName k) gNil))) (.ref p) σ H R :=
  ⟨p, _, rfl, SqT.of h, rfl, _, _, rfl, _, _, rfl, _, _, rfl, rfl, q⟩
theorem dec_eq_int {i j : Int} : (V.int i = V.int j) = (i = j) := propext ⟨fun h => by cases h; rfl, fun h => by rw [h]⟩
theorem dec_eq_str {i j : Str} : (V.str i = V.str j) = (i = j) := propext ⟨fun h => by cases h; rfl, fun h => by rw [h]⟩
end
section
variable {X : Cx} {i j k : Nat} {x y z : Str} {px py pz pos : Pos} {kk : Nat}
theorem pg_t2 (hN : X.N.Nodup) (hc : X.calm = true) (hi : X.N[i]? = some x) (hj : X.N[j]? = some y) (lx : Loc X.env.scope x) (ly : Loc X.env.scope y)
    (fx : X.fn x = true ∨ X.env.scope.names.lookup x = some .local) (fy : X.fn y = true ∨ X.env.scope.names.lookup y = some .local) :
    PG X (.Tuple [.Name x px, .Name y py] kk pos) (gTup X.K 2 (gCons (gName i) (gCons (gName j) gNil))) := pg_tup hc (pgs_cons (pg_name hN hi lx fx) (pgs_cons (pg_name hN hj ly fy) pgs_nil))
theorem pg_t3 (hN : X.N.Nodup) (hc : X.calm = true) (hi : X.N[i]? = some x) (hj : X.N[j]? = some y) (hk : X.N[k]? = some z) (lx : Loc X.env.scope x) (ly : Loc X.env.scope y) (lz : Loc X.env.scope z)
    (fx : X.fn x = true ∨ X.env.scope.names.lookup x = some .local) (fy : X.fn y = true ∨ X.env.scope.names.lookup y = some .local) (fz : X.fn z = true ∨ X.env.scope.names.lookup z = some .local) :
    PG X (.Tuple [.Name x px, .Name y py, .Name z pz] kk pos) (gTup X.K 3 (gCons (gName i) (gCons (gName j) (gCons (gName k) gNil)))) := pg_tup hc (pgs_cons (pg_name hN hi lx fx) (pgs_cons (pg_name hN hj ly fy) (pgs_cons (pg_name hN hk lz fz) pgs_nil)))
end
/-! ### the same, with the written part named -/
section
variable {X : Cx} {K : PySem.W.Frag}
theorem ix_listK (h : X.K = K) : IxR X (rIxL K) := h ▸ ix_list
theorem ix_tupK (h : X.K = K) : IxR X (rIxT K) := h ▸ ix_tup
theorem pi_listK {tg l : Expr} {tl : TE} (h : X.K = K) (hl : PE X l tl) : PI X tg l (iList K tl) := h ▸ pi_list hl
theorem sl_listK (h : X.K = K) : SlR X (rSlL K) := h ▸ sl_list
theorem call_isiK (h : X.K = K) : CallR X (.builtin "isinstance") (rIsi K) := h ▸ call_isi
theorem mt_removeK (h : X.K = K) (hu : X.A.units + 64 < cLine) : MtM X "list.remove" (rRemove K) := h ▸ mt_remove hu
def tTru (K : PySem.W.Frag) (ta : TE) : TT := fun σ H Q => ta σ H fun x H' => ∃ k, TruV K x H' k ∧ Q k H'
theorem pt_truthK {a : Expr} {ta : TE} (h : X.K = K) (ha : PE X a ta) (he : ∀ whole, isTrue a X.env whole = (do let v ← whole; standAt a.pos; holding [v] (truthy v))) : PT X a (tTru K ta) := h ▸ pt_truth ha he
theorem pg_t2K {i j : Nat} {x y : Str} {px py pos : Pos} {kk : Nat} (h : X.K = K) (hN : X.N.Nodup) (hc : X.calm = true) (hi : X.N[i]? = some x) (hj : X.N[j]? = some y) (lx : Loc X.env.scope x) (ly : Loc X.env.scope y)
    (fx : X.fn x = true ∨ X.env.scope.names.lookup x = some .local) (fy : X.fn y = true ∨ X.env.scope.names.lookup y = some .local) :
    PG X (.Tuple [.Name x px, .Name y py] kk pos) (gTup K 2 (gCons (gName i) (gCons (gName j) gNil))) := h ▸ pg_t2 hN hc hi hj lx ly fx fy
theorem pg_t3K {i j k : Nat} {x y z : Str} {px py pz pos : Pos} {kk : Nat} (h : X.K = K) (hN : X.N.Nodup) (hc : X.calm = true) (hi : X.N[i]? = some x) (hj : X.N[j]? = some y) (hk : X.N[k]? = some z) (lx : Loc X.env.scope x) (ly : Loc X.env.scope y) (lz : Loc X.env.scope z)
    (fx : X.fn x = true ∨ X.env.scope.names.lookup x = some .local) (fy : X.fn y = true ∨ X.env.scope.names.lookup y = some .local) (fz : X.fn z = true ∨ X.env.scope.names.lookup z = some .local) :
    PG X (.Tuple [.Name x px, .Name y py, .Name z pz] kk pos) (gTup K 3 (gCons (gName i) (gCons (gName j) (gCons (gName k) gNil)))) := h ▸ pg_t3 hN hc hi hj hk lx ly lz fx fy fz
/-- o.m(e, ..) of a list -/
def LmStep (x : V) (H : Hp) (k : Prop) : Prop := ∃ p xs, x = .ref p ∧ H p = some (.lst xs) ∧ k
theorem lm_at {p : Addr} {xs : List V} {H : Hp} {k : Prop} (h : H p = some (.lst xs)) (q : k) : LmStep (.ref p) H k := ⟨p, xs, rfl, h, q⟩
def tLM (r : V → List V → Hp → VK → Prop) (to : TE) (t : TA) : TE := fun σ H Q => to σ H fun x H1 => LmStep x H1 (t σ H1 fun vs H2 => r x vs H2 Q)
theorem pe_lm {o e : Expr} {es : List Expr} {to : TE} {t : TA} {name : Str} {apos cpos : Pos} {id : String} {r : V → List V → Hp → VK → Prop} (slot : Slot "list" name id) (hty : typeOf (.builtin id) = pure (.type "method_descriptor")) (hm : MtR X id r) (ho : PE X o to) (ha : PA X (e :: es) t)
    (hbase : attributeBase o name X.env (eval o X.env) = eval o X.env := by rfl)
    (hfew : ((backTo cpos (starEach (e :: es) X.env)).all (fun x => !x.1) && (backToKw cpos (keywordEach [] X.env)).all (fun x => x.1.isSome)
      && decide ((e :: es).length + ([] : List Keyword).length + (if ([] : List Keyword).isEmpty then 0 else 1) < 30)) = true := by rfl)
    (hline : (apos.endLine == cpos.line) = true := by rfl) (hs : starEach (e :: es) X.env = (false, eval e X.env) :: starEach es X.env := by rfl) (hplain : (backTo cpos (starEach es X.env)).any (·.1) = false := by rfl) :
    PE X (.Call (.Attribute o name apos) (e :: es) [] cpos) (tLM r to t) := by
  intro pins s σ H Q I h
  refine wpAny_Call_method_late hbase hfew hline rfl (thn (ho pins s σ H _ I h) fun v s1 ⟨x, H1, I1, r1, p, xs, ex, hp, q1⟩ => ?_)
  subst ex
  obtain ⟨h1, h2⟩ := tyV_is (T := "list") I1 r1 (.inl ⟨rfl, xs, SqL.of hp⟩)
  refine ⟨"list", id, PySem.F.plainAttrs_list, slot, hty, h1, h2, ?_⟩
  have hA := ha cpos pins s1 σ H1 _ I1 q1
  rw [hs] at hA ⊢
  refine Calls.callWith_builtin (by show (false || (backTo cpos (starEach es X.env)).any (·.1)) = false; rw [hplain] <;> rfl) (Calls.evalArgs_plain ?_)
  exact thn hA fun us s2 ⟨vs, H2, I2, r2, q2⟩ => hm pins s2 σ H2 (.ref p) vs v us Q I2 r1 r2 q2
end
/-! ### loops and comprehensions, step by step -/
def ForW (J : It) (g : TG) (tb : TS) (D : Ends) (σ : St) (H1 : Hp) : Prop := ∃ W : Nat → Nat → St → Hp → Prop, (∃ m, W 0 m σ H1) ∧ ∀ i m σ H, W i m σ H →
  (J.stop i H ∧ D.nx σ H) ∨ (J.go i H ∧ ∃ N : St → Hp → Prop, (∀ σ' H', N σ' H' → ∃ m', m' < m ∧ W (i + 1) m' σ' H') ∧ ∀ x H', J.yld i H x H' → g x σ H' fun σ2 H2 => tb { D with nx := N, ct := N, bk := D.nx } σ2 H2)
theorem rd_for {wi : TI} {g : TG} {tb : TS} {D : Ends} {σ : St} {H : Hp} : tFor wi g tb D σ H = wi σ H fun J H1 => ForW J g tb D σ H1 := rfl
def ItStep (K : PySem.W.Frag) (x : V) (H : Hp) (R : It → Hp → Prop) : Prop := ∃ a, x = .ref a ∧ (∃ xs, SqL K H a xs) ∧ R (Itl K a) H
theorem rd_iList {K : PySem.W.Frag} {tl : TE} {σ : St} {H : Hp} {R : It → Hp → Prop} : iList K tl σ H R = tl σ H fun x H1 => ItStep K x H1 R := rfl
theorem it_at {K : PySem.W.Frag} {p : Addr} {xs : List V} {H : Hp} {R : It → Hp → Prop} (h : H p = some (.lst xs)) (q : R (Itl K p) H) : ItStep K (.ref p) H R := ⟨p, rfl, ⟨xs, SqL.of h⟩, q⟩
def RgStep (vs : List V) (H : Hp) (R : It → Hp → Prop) : Prop := ∃ j : Int, vs = [.int j] ∧ -(2 ^ 62) ≤ j ∧ j < 2 ^ 62 ∧ R (Itr 0 j.toNat) H
theorem rd_iRng1 {ta : TA} {σ : St} {H : Hp} {R : It → Hp → Prop} : iRng1 ta σ H R = ta σ H fun vs H1 => RgStep vs H1 R := rfl
theorem rg_at {j : Int} {H : Hp} {R : It → Hp → Prop} (h1 : -(2 ^ 62) ≤ j) (h2 : j < 2 ^ 62) (q : R (Itr 0 j.toNat) H) : RgStep [.int j] H R := ⟨j, rfl, h1, h2, q⟩
theorem rd_pi {k : Int} {R : Int → Prop} : (∃ i, V.int k = .int i ∧ R i) = R k := propext ⟨fun ⟨_, e, h⟩ => by cases e; exact h, fun h => ⟨k, rfl, h⟩⟩
theorem isi_at {K : PySem.W.Frag} {H : Hp} {Q : VK} {x : V} {n t : String} {b : Bool} (ty : TyOf K H x (.type t)) (e : PySem.W.kitOne K (.type t) (.type n) = some b) (q : Q (.bl b) H) : rIsi K [x, .ty n] H Q := ⟨x, n, t, b, rfl, ty, e, q⟩
end L2

namespace L2
open PySem PySem.Spec PyProof.Rows
/-- isinstance(x, (A, B, ..)): the classes written as a tuple that was just made -/
def rIsiT (K : PySem.W.Frag) : List V → Hp → VK → Prop := fun xs H Q => ∃ (x : V) (p : Addr) (ns : List String) (t : String) (b : Bool), xs = [x, .ref p] ∧ H p = some (.tup (ns.map V.ty)) ∧ TyOf K H x (.type t) ∧ PySem.W.kitAny K (.type t) (ns.map Value.type) = some b ∧ Q (.bl b) H
theorem vals_ty : ∀ {ns : List String} {us : List Value}, Vals (ns.map V.ty) us → us = ns.map Value.type
  | [], _, h => by cases h; rfl
  | n :: ns, _, h => by
    cases h with
    | cons r t =>
      have := vals_ty t
      subst this
      obtain rfl := (show _ = Value.type n from r)
      rfl
theorem call_isiT {X : Cx} {K : PySem.W.Frag} (hK : X.K = K) : CallR X (.builtin "isinstance") (rIsiT K) := by
  subst hK
  intro pins s σ H xs us Q I r h
  obtain ⟨x, p, ns, t, b, rfl, hp, ty, e, q⟩ := h
  obtain ⟨u, v, rfl, ru, rv⟩ := vals2 r
  obtain rfl : v = Value.ref p := rv
  obtain ⟨_, its, r1, o, ho, hc, n, hd⟩ := (show ObjOk X.prog X.w H s.heap p (.tup (ns.map V.ty)) from I.hok p _ hp)
  obtain rfl := vals_ty r1
  obtain ⟨c, dd, dt, sl⟩ := o
  simp only at hc hd
  subst hc hd
  have fin : ∀ tk, EP X pins σ Q (.bool b) { s with toks := tk } := fun tk => ⟨.bl b, H, I.tok tk, rfl, q⟩
  cases ty with
  | non => cases (show u = Value.none from ru); exact PySem.W.kia_tup PySem.W.kitx_none I.kIn True.intro ho e (fun z => nomatch z) fin
  | bl y => cases (show u = Value.bool y from ru); exact PySem.W.kia_tup PySem.W.kitx_bool I.kIn True.intro ho e (fun z => nomatch z) fin
  | int i => obtain ⟨t, q'⟩ := (show ∃ t, u = Value.int i t from ru); cases q'; exact PySem.W.kia_tup PySem.W.kitx_int I.kIn True.intro ho e (fun z => nomatch z) fin
  | str y => obtain ⟨t, q'⟩ := (show ∃ t, u = Value.str y t from ru); cases q'; exact PySem.W.kia_tup PySem.W.kitx_str I.kIn True.intro ho e (fun z => nomatch z) fin
  | flt y => obtain ⟨t, q'⟩ := (show ∃ t, u = Value.float y t from ru); cases q'; exact PySem.W.kia_tup PySem.W.kitx_float I.kIn True.intro ho e (fun z => nomatch z) fin
  | @lst a xs ea =>
    cases (show u = Value.ref a from ru)
    obtain ⟨_, _, n, _, h1⟩ := (show ObjOk X.prog X.w H s.heap a (.lst xs) from I.hok a _ ea)
    exact PySem.W.kia_tup PySem.W.kitx_list I.kIn ⟨_, h1, rfl⟩ ho e (fun z => nomatch z) fin
  | @frz a ob xs ea =>
    cases (show u = Value.ref a from ru)
    obtain ⟨_, _, _, n, _, h1⟩ := (show ObjOk X.prog X.w H s.heap a (.frz ob (.lst xs)) from I.hok a _ ea)
    exact PySem.W.kia_tup PySem.W.kitx_list I.kIn ⟨_, h1, rfl⟩ ho e (fun z => nomatch z) fin
  | @tup a xs ea =>
    cases (show u = Value.ref a from ru)
    obtain ⟨_, _, _, o2, h1, h2, _⟩ := (show ObjOk X.prog X.w H s.heap a (.tup xs) from I.hok a _ ea)
    exact PySem.W.kia_tup PySem.W.kitx_tuple I.kIn ⟨o2, h1, h2⟩ ho e (fun z => nomatch z) fin
  | @dK a kvs ea =>
    cases (show u = Value.ref a from ru)
    obtain ⟨_, _, vs, _, p2⟩ := (show ObjOk X.prog X.w H s.heap a (.dK kvs) from I.hok a _ ea)
    obtain ⟨o2, es, ep, h1, h2, _⟩ := p2
    exact PySem.W.kia_tup PySem.W.kitx_dict I.kIn ⟨o2, h1, h2.1⟩ ho e (fun z => nomatch z) fin
  | @dT a kvs ea =>
    cases (show u = Value.ref a from ru)
    obtain ⟨_, _, xs, _, o2, es, ep, h1, h2, _⟩ := (show ObjOk X.prog X.w H s.heap a (.dT kvs) from I.hok a _ ea)
    exact PySem.W.kia_tup PySem.W.kitx_dict I.kIn ⟨o2, h1, h2.1⟩ ho e (fun z => nomatch z) fin
end L2

namespace PySem.SeqAt
open AutoSeq1 (wpAny_loadPart')
open MeetsSeq MeetsSeq2 MeetsSeq3 SeqRoads2
theorem tuple_index3 (l : Addr) (its : Array Value) (n : Nat) (dd : Option Addr) (sl : Array (Option Value)) (a b c x : Value) (e : Nat → Bool) (hi : its = #[a, b, c]) (j : Nat) (hj : j < 3) (hit : e j = true) (hno : ∀ m, m < j → e m = false) :
    Meets (Builtin.«tuple.index» ⟨[.ref l, x], []⟩)
      (fun A R s => s.heap.get? l = some { cls := .type "tuple", dict := dd, data := .seq its n, slots := sl } ∧ EqAt A.in1 s a x (e 0) ∧ EqAt A.in1 s b x (e 1) ∧ EqAt A.in1 s c x (e 2) ∧ R (.ok (.ret (.int j s.toks))) { s with toks := s.toks + 1 }) := by
  intro prog w A R s h
  obtain ⟨hp, g, d, tk, os⟩ := s; obtain ⟨hl, h0, h1, h2, h⟩ := h
  subst hi
  unfold Builtin.«tuple.index»
  simp only [Std.Legacy.Range.forIn_eq_forIn_range']
  wp_walk using wpAny_loadPart' hl
  simp only [List.size_toArray, List.length_cons, List.length_nil, Std.Legacy.Range.size, Nat.min_self, show List.range' 0 ((0 + 1 + 1 + 1 - 0 + 1 - 1) / 1) 1 = [0, 1, 2] from rfl, List.forIn_cons, List.forIn_nil]
  simp only [List.forIn'.loop]
  rcases (show j = 0 ∨ j = 1 ∨ j = 2 by omega) with rfl | rfl | rfl
  · rw [hit] at h0
    refine wpAny_bind (wpAny_bind (h0 prog w _ _ ?_))
    wp_walk
    exact h
  · rw [hno 0 (by omega)] at h0
    rw [hit] at h1
    refine wpAny_bind (wpAny_bind (h0 prog w _ _ ?_))
    simp only [Bool.false_eq_true, if_false]
    refine wpAny_pure ?_
    refine wpAny_bind (wpAny_bind (h1 prog w _ _ ?_))
    wp_walk
    exact h
  · rw [hno 0 (by omega)] at h0
    rw [hno 1 (by omega)] at h1
    rw [hit] at h2
    refine wpAny_bind (wpAny_bind (h0 prog w _ _ ?_))
    simp only [Bool.false_eq_true, if_false]
    refine wpAny_pure ?_
    refine wpAny_bind (wpAny_bind (h1 prog w _ _ ?_))
    simp only [Bool.false_eq_true, if_false]
    refine wpAny_pure ?_
    refine wpAny_bind (wpAny_bind (h2 prog w _ _ ?_))
    wp_walk
    exact h
end PySem.SeqAt
namespace L2
open PySem PySem.Spec PyProof.Rows
theorem eqV_str (a b : Str) : eqV (.str a) (.str b) = decide (a = b) := by
  by_cases h : a = b <;> simp [eqV, h]
/-- index of a text in a module's tuple of three -/
structure Tup3 (K : PySem.W.Frag) (mg : Str → Option Value) (nm : Str) (p : Addr) (x y z : Str) : Prop where
  mg : mg nm = some (.ref p)
  lk : ∃ (a b c : Tok) (n : Nat) (sl : Array (Option Value)), K.lookup p = some ⟨.type "tuple", none, .seq #[.str x a, .str y b, .str z c] n, sl⟩
theorem Tup3.sq {K : PySem.W.Frag} {mg : Str → Option Value} {nm : Str} {p : Addr} {x y z : Str} (T : Tup3 K mg nm p x y z) (H : Hp) : SqT K H p [.str x, .str y, .str z] := by
  obtain ⟨a, b, c, n, sl, e⟩ := T.lk
  exact .inr ⟨_, _, n, e, rfl, rfl, (by decide : 3 ≤ sizeLine), .cons ⟨a, rfl⟩ (.cons ⟨b, rfl⟩ (.cons ⟨c, rfl⟩ .nil))⟩
theorem Tup3.ty {K : PySem.W.Frag} {mg : Str → Option Value} {nm : Str} {p : Addr} {x y z : Str} (T : Tup3 K mg nm p x y z) (H : Hp) : tyV K "tuple" (.ref p) H := by
  obtain ⟨a, b, c, n, sl, e⟩ := T.lk
  exact .inr (.inl ⟨rfl, _, e, rfl, rfl⟩)
def rIdxT (p : Addr) (x y z : Str) : V → List V → Hp → VK → Prop := fun v vs H Q => ∃ (t : Str) (j : Nat), v = .ref p ∧ vs = [.str t] ∧ [x, y, z][j]? = some t ∧ (∀ m, m < j → [x, y, z][m]? ≠ some t) ∧ Q (.int j) H
theorem mt_indexT {X : Cx} {K : PySem.W.Frag} {mg : Str → Option Value} {nm : Str} {p : Addr} {x y z : Str} (hK : X.K = K) (T : Tup3 K mg nm p x y z) : MtR X "tuple.index" (rIdxT p x y z) := by
  subst hK
  intro pins s σ H v vs w us Q I rx rv h
  obtain ⟨t, j, rfl, rfl, hj, hno, q⟩ := h
  cases rx
  obtain ⟨u, rfl, ru⟩ := rv.one
  obtain ⟨tk, rfl⟩ := ru
  obtain ⟨a, b, c, n, sl, e⟩ := T.lk
  have eo := I.kIn p _ e
  have hj3 : j < 3 := (List.getElem?_eq_some_iff.mp hj).1
  refine call_meets F.slot_tuple_index ⟨_, eo, rfl⟩ F.entry_tuple_index (F.args_tuple_index_2 _ _) (SeqAt.tuple_index3 p _ n none sl (.str x a) (.str y b) (.str z c) (.str t tk) (fun m => match m with | 0 => eqV (.str x) (.str t) | 1 => eqV (.str y) (.str t) | 2 => eqV (.str z) (.str t) | _ => false) rfl j hj3 ?_ ?_)
    ⟨eo, eqAt_V (y := .str x) (x := .str t) ⟨a, rfl⟩ ⟨tk, rfl⟩ rfl rfl, eqAt_V (y := .str y) (x := .str t) ⟨b, rfl⟩ ⟨tk, rfl⟩ rfl rfl, eqAt_V (y := .str z) (x := .str t) ⟨c, rfl⟩ ⟨tk, rfl⟩ rfl rfl, ⟨.int j, H, I.tok _, ⟨_, rfl⟩, q⟩⟩
  · rcases (show j = 0 ∨ j = 1 ∨ j = 2 by omega) with rfl | rfl | rfl <;> (simp at hj; subst hj; simp [eqV_str])
  · intro m hm
    have := hno m hm
    rcases (show m = 0 ∨ m = 1 ∨ m = 2 by omega) with rfl | rfl | rfl <;> (simp at this; simp [eqV_str, this])
end L2

namespace L2
open PySem PySem.Spec PyProof.Rows
/-! ### the library's ledger rules (Fr, News), from any invariant -/
def h00 : Heap := {}
def newsOf (h : Heap) (L : Addr) : List (Addr × Obj) := (List.range h.objs.size).filterMap fun a => if a = L then none else (h.get? a).map fun o => (a, o)
theorem h00_none (a : Addr) : h00.get? a = none := Heap.get?_none_of_le (Nat.zero_le _)
theorem news_mem {h : Heap} {L b : Addr} {o : Obj} (e : h.get? b = some o) (n : b ≠ L) : (b, o) ∈ newsOf h L := by
  refine List.mem_filterMap.mpr ⟨b, List.mem_range.mpr (Heap.lt_size e), ?_⟩
  rw [if_neg n, e]
  rfl
theorem news_of {h : Heap} {L : Addr} : News h00 L h (newsOf h L) := fun p hp => by
  obtain ⟨a, _, e⟩ := List.mem_filterMap.mp hp
  by_cases n : a = L
  · rw [if_pos n] at e; cases e
  · rw [if_neg n] at e
    cases q : h.get? a with
    | none => rw [q] at e; cases e
    | some o => rw [q] at e; cases e; exact ⟨q, n, h00_none _⟩
theorem Inv.ledger {X : Cx} {pins : List (Addr × Obj)} {σ : St} {H : Hp} {s : Shared} (I : Inv X pins σ H s) : ∃ m, Fr h00 X.env.locals s.heap m ∧ News h00 X.env.locals s.heap (newsOf s.heap X.env.locals) ∧
    ∀ (h' : Heap) (tk : Nat), Fr h00 X.env.locals h' m → News h00 X.env.locals h' (newsOf s.heap X.env.locals) → Inv X pins σ H { s with heap := h', toks := tk } := by
  obtain ⟨m, hn, _⟩ := I.loc
  refine ⟨m, ⟨hn, fun b o e => (by rw [h00_none] at e; cases e), Nat.zero_le _⟩, news_of, fun h' tk F W => ?_⟩
  have kp : ∀ b o, b ≠ X.env.locals → s.heap.get? b = some o → h'.get? b = some o := fun b o n e => (W _ (news_mem e n)).1
  refine I.step (ch := []) (H' := H) (fun b hb => nomatch hb) (fun b o n _ _ e _ => kp b o n e) (fun b o n _ _ e _ => ⟨o.slots, kp b o n e⟩) (fun b o _ _ z => z) (fun b o _ e => ?_) (fun _ _ z => z) (fun _ _ _ z => z) (fun b ps z => ⟨#[], by simpa using z⟩) (fun m' hm' => ?_) (fun a o e => ?_) I.bare
  · by_cases n : b = X.env.locals
    · subst n
      obtain ⟨o', _, _, e', _⟩ := F.ns
      exact ⟨o', e'⟩
    · exact ⟨o, kp b o n e⟩
  · have : m' = m := funext fun x => by
      obtain ⟨o, es, ep, e1, e2, e3, e4⟩ := hm'
      obtain ⟨o', es', ep', f1, f2, f3, f4⟩ := hn
      rw [e1] at f1; cases f1
      rw [e2] at f2; cases f2
      rw [← e4, ← f4]
    rw [this]
    exact F.ns
  · refine (I.hok a o e).stay (fun b u hb q => kp b u ?_ q) (fun _ q => q) fun _ _ q => q
    intro z
    subst z
    have := I.free
    rcases hb with hb | hb
    · subst hb; rw [e] at this; cases this
    · rw [hb] at this; cases this
/-! ### all(bs), a list of truths -/
theorem bools_of : ∀ {bs : List Bool} {us : List Value}, Vals (bs.map V.bl) us → LSm.BoolsAre us bs
  | [], _, h => by cases h; exact .nil
  | b :: bs, _, h => by
    cases h with
    | cons r t =>
      obtain rfl := (show _ = Value.bool b from r)
      exact .cons b (bools_of t)
def rAll : List V → Hp → VK → Prop := fun xs H Q => ∃ (l : Addr) (bs : List Bool), xs = [.ref l] ∧ H l = some (.lst (bs.map V.bl)) ∧ Q (.bl (bs.all id)) H
theorem call_all {X : Cx} (hc : X.calm = true) : CallR X (.builtin "all") rAll := by
  intro pins s σ H xs us Q I r h
  obtain ⟨l, bs, rfl, hl, q⟩ := h
  obtain ⟨u, rfl, rx⟩ := vals1 r
  cases rx
  obtain ⟨its, r', pl, hz⟩ := I.list (SqL.of hl)
  obtain ⟨m, F, W, fin⟩ := I.ledger
  exact LSm.all_bools F W (I.ok.hd hc) pl.isList (bools_of r') fun h' tk F' W' => ⟨.bl _, H, fin h' tk F' W', rfl, q⟩
theorem vals_carried : ∀ {ns : List Int} {us : List Value}, CarriedAll us (ns.map PyData.int) → Vals (ns.map V.int) us
  | [], _, h => by cases h; exact .nil
  | n :: ns, _, h => by
    cases h with
    | cons r t =>
      cases r with
      | int i tk => exact .cons ⟨tk, rfl⟩ (vals_carried t)
def rListRng : List V → Hp → VK → Prop := fun xs H Q => ∃ (p : Addr) (lo hi : Int) (n : Nat), xs = [.ref p] ∧ H p = some (.rng lo hi) ∧ -(2 ^ 62) ≤ lo ∧ hi < 2 ^ 62 ∧ hi = lo + n ∧ n ≤ 1000000 ∧ ∀ l, H l = none → Q (.ref l) (upd H l (.lst ((List.range n).map fun k : Nat => V.int (lo + k))))
theorem call_list_rng {X : Cx} (hc : X.calm = true) : CallR X (.type "list") rListRng := by
  intro pins s σ H xs us Q I r h
  obtain ⟨p, lo, hi, n, rfl, hp, b1, b2, e, hn, q⟩ := h
  obtain ⟨u, rfl, rx⟩ := vals1 r
  cases rx
  obtain ⟨t, u, v, ho⟩ := (show ObjOk X.prog X.w H s.heap p (.rng lo hi) from I.hok p _ hp)
  obtain ⟨m, F, W, fin⟩ := I.ledger
  refine list_rangeD (n := n) (I.ok.hd hc) F W ho (small_one (by omega) (by omega) (by omega) (by omega)) (by rw [rangeSize_one]; split <;> omega) (Nat.le_trans hn (by decide)) fun h' tk ys F' W' kp _ _ np ca => ?_
  have hv : Vals ((List.range n).map fun k : Nat => V.int (lo + k)) ys := by
    have := vals_carried ca
    unfold rangeInts at this
    rw [List.map_map] at this
    have e2 : (V.int ∘ fun i : Nat => lo + (i : Int) * 1) = fun k : Nat => V.int (lo + k) := funext fun k => by simp
    rw [e2] at this
    exact this
  have hz : ((List.range n).map fun k : Nat => V.int (lo + k)).length ≤ sizeLine := by
    rw [List.length_map, List.length_range]; exact Nat.le_trans hn (by decide)
  refine ⟨.ref s.heap.objs.size, _, I.laid (t' := tk) kp (Nat.le_refl _) (show ObjOk X.prog X.w _ h' _ (.lst _) from ?_), rfl, q _ (I.hok.fresh (Nat.le_refl _))⟩
  obtain ⟨pl, _⟩ := np
  obtain ⟨n', e'⟩ := pl
  exact ⟨hz, ys, n', hv, e'⟩
/-! ### a list or a tuple -/
def rIxA (K : PySem.W.Frag) : R2 := fun x y H Q => rIxL K x y H Q ∨ rIxT K x y H Q
theorem ix_anyK {X : Cx} {K : PySem.W.Frag} (h : X.K = K) : IxR X (rIxA K) := (ix_listK h).or (ix_tupK h)
def rLenA (K : PySem.W.Frag) : List V → Hp → VK → Prop := fun xs H Q => ∃ p ys, xs = [.ref p] ∧ (SqL K H p ys ∨ SqT K H p ys) ∧ Q (.int ys.length) H
theorem call_lenAK {X : Cx} {K : PySem.W.Frag} (h : X.K = K) : CallR X (.builtin "len") (rLenA K) := h ▸ call_len_seq
/-- a module's whole number -/
structure GInt (mg : Str → Option Value) (nm : Str) (n : Int) : Prop where
  ex : ∃ t, mg nm = some (.int n t)
theorem pe_gint {X : Cx} {x : Str} {n : Int} {pos : Pos} (G : GInt X.mg x n) (hg : Gl X x) (hd : (x == ("__debug__" : Str)) = false := by decide) : PE X (.Name x pos) (tC (.int n)) := by
  obtain ⟨t, e⟩ := G.ex
  exact pe_glob hg e ⟨t, rfl⟩ hd
end L2

namespace L2
open PySem PySem.Spec PyProof.Rows
/-! ### numbers of some thousand figures -/
/-- below 2 to the n -/
def Bt (n : Nat) (i : Int) : Prop := i.natAbs < 2 ^ n
theorem Bt.bits {n : Nat} {i : Int} (h : Bt n i) : Builtin.Int.intBits i ≤ n := intBits_le_iff.mpr h
theorem Bt.mono {n m : Nat} {i : Int} (h : Bt n i) (hm : n ≤ m) : Bt m i := Nat.lt_of_lt_of_le h (Nat.pow_le_pow_right (by decide) hm)
theorem Bt.neg {n : Nat} {i : Int} (h : Bt n i) : Bt n (-i) := by unfold Bt; rw [Int.natAbs_neg]; exact h
theorem Bt.add {n m : Nat} {i j : Int} (h : Bt n i) (h' : Bt m j) : Bt (max n m + 1) (i + j) := by
  have a := h.mono (Nat.le_max_left n m)
  have b := h'.mono (Nat.le_max_right n m)
  unfold Bt at *
  have := Int.natAbs_add_le i j
  rw [Nat.pow_succ]
  omega
theorem Bt.sub {n m : Nat} {i j : Int} (h : Bt n i) (h' : Bt m j) : Bt (max n m + 1) (i - j) := by
  rw [Int.sub_eq_add_neg]
  exact h.add h'.neg
theorem Bt.shl {n k : Nat} {i : Int} (h : Bt n i) : Bt (n + k) (i * 2 ^ k) := by
  unfold Bt at *
  rw [Int.natAbs_mul, Int.natAbs_pow, Nat.pow_add]
  exact Nat.mul_lt_mul_of_pos_right h (Nat.pow_pos (by decide))
theorem Bt.pow (k : Nat) : Bt (1 + k) ((1 : Int) * 2 ^ k) := Bt.shl (n := 1) (by unfold Bt; decide)
theorem Bt.small {n : Nat} {i : Int} (h0 : -(2 ^ 62) < i) (h1 : i < 2 ^ 62) (hn : 62 ≤ n) : Bt n i := by
  refine Bt.mono (n := 62) ?_ hn
  unfold Bt
  omega
theorem Bt.nonneg_le {n : Nat} {i j : Int} (h : Bt n i) (h0 : 0 ≤ j) (h1 : j ≤ i) : Bt n j := by
  unfold Bt at *
  omega
theorem Bt.sign {n : Nat} {i s : Int} (h : Bt n i) (hs : s = 1 ∨ s = -1) : Bt n (s * i) := by
  rcases hs with rfl | rfl
  · rw [Int.one_mul]; exact h
  · rw [Int.neg_mul, Int.one_mul]; exact h.neg
end L2

namespace L2
open PySem PySem.Spec PyProof.Rows
end L2

namespace L2
open PySem PySem.Spec PyProof.Rows
/-! ### for x in reversed(xs) -/
def Itv (K : PySem.W.Frag) (a : Addr) (n : Nat) : It :=
  ⟨fun i H => i < n ∧ ∃ xs, SqL K H a xs ∧ xs.length = n, fun i H x H' => H' = H ∧ ∀ xs, SqL K H a xs → xs[n - 1 - i]? = some x, fun i H => n = i⟩
def RvStep (K : PySem.W.Frag) (vs : List V) (H : Hp) (R : It → Hp → Prop) : Prop := ∃ a xs, vs = [.ref a] ∧ SqL K H a xs ∧ R (Itv K a xs.length) H
def iRev (K : PySem.W.Frag) (ta : TA) : TI := fun σ H R => ta σ H fun vs H1 => RvStep K vs H1 R
theorem rd_iRev {K : PySem.W.Frag} {ta : TA} {σ : St} {H : Hp} {R : It → Hp → Prop} : iRev K ta σ H R = ta σ H fun vs H1 => RvStep K vs H1 R := rfl
def Ite (K : PySem.W.Frag) (a : Addr) : It :=
  ⟨fun i H => ∃ xs x, SqL K H a xs ∧ xs[i]? = some x, fun i H x H' => ∃ (p : Addr) (v : V), x = .ref p ∧ H p = none ∧ H' = upd H p (.tup [.int i, v]) ∧ ∀ xs, SqL K H a xs → xs[i]? = some v, fun i H => ∃ xs, SqL K H a xs ∧ xs.length ≤ i⟩
def EnStep (K : PySem.W.Frag) (vs : List V) (H : Hp) (R : It → Hp → Prop) : Prop := ∃ a xs, vs = [.ref a] ∧ SqL K H a xs ∧ R (Ite K a) H
def iEnum (K : PySem.W.Frag) (ta : TA) : TI := fun σ H R => ta σ H fun vs H1 => EnStep K vs H1 R
theorem rd_iEnum {K : PySem.W.Frag} {ta : TA} {σ : St} {H : Hp} {R : It → Hp → Prop} : iEnum K ta σ H R = ta σ H fun vs H1 => EnStep K vs H1 R := rfl
/-! ### == and != of lists -/
def rNeL (K : PySem.W.Frag) : R2 := fun x y H Q => ∃ a b xs ys, x = .ref a ∧ y = .ref b ∧ SqL K H a xs ∧ SqL K H b ys ∧ ((xs.length ≠ ys.length ∧ Q (.bl true) H) ∨ (xs.length = ys.length ∧ ∃ e : Nat → Bool, (∀ (j : Nat) x y, xs[j]? = some x → ys[j]? = some y → DE K H 20 x y (e j)) ∧ Q (.bl (!(List.range xs.length).all e)) H))
theorem op_neLK {X : Cx} {K : PySem.W.Frag} (hK : X.K = K) (hu : X.A.units + 64 < cLine) : OpR X (compareOp .NotEq) (rNeL K) := by
  subst hK
  intro pins s σ H x y v u Q I rx ry h
  obtain ⟨a, b, xs, ys, rfl, rfl, ha, hb, h⟩ := h
  obtain rfl : v = Value.ref a := rx
  obtain rfl : u = Value.ref b := ry
  obtain ⟨its, r1, p1, _⟩ := I.list ha
  obtain ⟨its2, r2, p2, _⟩ := I.list hb
  rcases h with ⟨hl, q⟩ | ⟨hl, e, he, q⟩
  · exact EqBoolInt.of_rcne (SeqAt.RcNeAt.lists_lengths (A := X.A) p1.isList p2.isList (by simp [← r1.length, ← r2.length, hl]) (by omega)) ⟨.bl _, H, I, rfl, q⟩
  · refine EqBoolInt.of_rcne (SeqAt.RcNeAt.lists (A := X.A) (e := e) p1.isList p2.isList (by simp [← r1.length, ← r2.length, hl]) (by omega) fun j h1 h2 => ?_) ⟨.bl _, H, I, rfl, ?_⟩
    · have l1 : j < xs.length := by rw [r1.length]; simpa using h1
      have l2 : j < ys.length := by rw [r2.length]; simpa using h2
      obtain ⟨u1, q1, s1⟩ := r1.get (List.getElem?_eq_getElem l1)
      obtain ⟨u2, q2, s2⟩ := r2.get (List.getElem?_eq_getElem l2)
      have e1 : its.toArray[j] = u1 := by
        obtain ⟨_, z⟩ := List.getElem?_eq_some_iff.mp q1
        simpa using z
      have e2 : its2.toArray[j] = u2 := by
        obtain ⟨_, z⟩ := List.getElem?_eq_some_iff.mp q2
        simpa using z
      rw [e1, e2]
      exact (he j _ _ (List.getElem?_eq_getElem l1) (List.getElem?_eq_getElem l2)).eqAt I (by rw [in1_units]; omega) s1 s2
    · rw [List.size_toArray, ← r1.length]
      exact q
theorem all_eq_of {α : Type} [DecidableEq α] {ns ms : List α} (hl : ns.length = ms.length) : (List.range ns.length).all (fun j => ns[j]? == ms[j]?) = decide (ns = ms) := by
  rw [Bool.eq_iff_iff, decide_eq_true_iff, List.all_eq_true]
  constructor
  · intro h
    refine List.ext_getElem? fun j => ?_
    by_cases hj : j < ns.length
    · exact eq_of_beq (h j (List.mem_range.mpr hj))
    · rw [List.getElem?_eq_none (by omega), List.getElem?_eq_none (by omega)]
  · rintro rfl j _
    simp
end L2

namespace L2
open PySem PySem.Spec PyProof.Rows
/-! ### xs[::-1]: of its items, no more than it has -/
def ixRev (n : Nat) : List Nat := sliceRange (sliceBounds none none (some (-1)) n).1 (sliceBounds none none (some (-1)) n).2.1 (sliceBounds none none (some (-1)) n).2.2
def pickV (xs : List V) : List V := (ixRev xs.length).filterMap fun i => xs[i]?
def RevStep (K : PySem.W.Frag) (x : V) (H : Hp) (Q : VK) : Prop := ∃ a xs, x = .ref a ∧ SqL K H a xs ∧ ∀ r, H r = none → Q (.ref r) (upd H r (.lst (pickV xs)))
def tRev (K : PySem.W.Frag) (te : TE) : TE := fun σ H Q => te σ H fun x H1 => RevStep K x H1 Q
end L2

namespace Mw
open PySem
theorem add_xor_and : ∀ (a b : Nat), a + b = (a ^^^ b) + 2 * (a &&& b) := by
  intro a
  induction a using Nat.strongRecOn with
  | ind a ih =>
    intro b
    by_cases h : a = 0
    · subst h; simp
    · have e := ih (a / 2) (by omega) (b / 2)
      rw [← Nat.xor_div_two, ← Nat.and_div_two] at e
      have x0 := Nat.testBit_xor a b 0
      have a0 := Nat.testBit_and a b 0
      simp only [Nat.testBit_zero] at x0 a0
      have m1 := Nat.mod_two_eq_zero_or_one (a ^^^ b)
      have m2 := Nat.mod_two_eq_zero_or_one (a &&& b)
      rcases Nat.mod_two_eq_zero_or_one a with ha | ha <;> rcases Nat.mod_two_eq_zero_or_one b with hb | hb <;> rcases m1 with m1 | m1 <;> rcases m2 with m2 | m2 <;> simp [ha, hb, m1, m2] at x0 a0 <;> omega
theorem bitXor_nn {x y : Int} (hx : 0 ≤ x) (hy : 0 ≤ y) : Builtin.bitXor x y = ((x.toNat ^^^ y.toNat : Nat) : Int) := by
  rw [PyProof.Rows.bitXor_and, PyProof.Rows.bitAnd_pp hx hy]
  have := add_xor_and x.toNat y.toNat
  omega
end Mw

namespace L2
open PySem PySem.Spec PyProof.Rows
def noStar : Expr → Bool
  | .Starred _ _ => false
  | _ => true
theorem star_cons {e : Expr} {es : List Expr} {env : Env} (h : noStar e = true) : starEach (e :: es) env = (false, eval e env) :: starEach es env := by
  cases e <;> first | rfl | cases h
theorem pa_c {X : Cx} {e : Expr} {es : List Expr} {te : TE} {t : TA} (ha : PE X e te) (hr : PA X es t) (h : noStar e = true := by rfl) : PA X (e :: es) (tCons te t) := pa_cons ha hr (star_cons h)
end L2

namespace L2
open PySem PySem.Spec PyProof.Rows
/-! ### the rules, closed: nothing looks into them -/
structure QE (X : Cx) (e : Expr) (t : TE) : Prop where
  h : PE X e t
structure QT (X : Cx) (e : Expr) (t : TT) : Prop where
  h : PT X e t
structure QW (X : Cx) (e : Expr) (t : TT) : Prop where
  h : PW X e t
structure QA (X : Cx) (e : List Expr) (t : TA) : Prop where
  h : PA X e t
structure QS (X : Cx) (e : Stmt) (t : TS) : Prop where
  h : PS X e t
structure QSs (X : Cx) (e : List Stmt) (t : TS) : Prop where
  h : PSs X e t
structure QG (X : Cx) (e : Expr) (t : TG) : Prop where
  h : PG X e t
structure QTs (X : Cx) (e : List Expr) (t : TT) : Prop where
  h : PTs X e t
structure QO (X : Cx) (e : Option Expr) (t : TO) : Prop where
  h : PO X e t
structure QI (X : Cx) (tg e : Expr) (t : TI) : Prop where
  h : PI X tg e t
structure QPs (X : Cx) (pos : Pos) (ks : List (Option Expr)) (vs : List Expr) (t : List (TE × TE)) : Prop where
  h : PPs X pos ks vs t
section
variable {X : Cx} {st : Stmt} {rest : List Stmt} {t u : TS} {e : Expr} {te : TE} {pos : Pos}
theorem qss_nil  : QSs X [] tNext := ⟨pss_nil ⟩
end
section
variable {X : Cx} {st : Stmt} {rest : List Stmt} {t u : TS} {e : Expr} {te : TE} {pos : Pos}
theorem qss_one (h1 : QS X st t) : QSs X [st] t := ⟨pss_one h1.h⟩
end
section
variable {X : Cx} {st : Stmt} {rest : List Stmt} {t u : TS} {e : Expr} {te : TE} {pos : Pos}
theorem qss_cons (h1 : QS X st t) (h2 : QSs X rest u) : QSs X (st :: rest) (tSeq t u) := ⟨pss_cons h1.h h2.h⟩
end
section
variable {X : Cx} {elt tg iter : Expr} {ifs : List Expr} {scope : Scope} {bs : List Bool} {ext : List Str} {pos : Pos} {wi : TI} {g : TG} {tt : TT} {te : TE}
theorem qs_lc {i : Nat} {x : Str} {pos' spos : Pos} (bs : List Bool) (ext : List Str) (hN : X.N.Nodup) (hix : X.N[i]? = some x) (hx : X.env.scope.names.lookup x = some .local) (hi : QI X tg iter wi) (hg : ∀ fp s H, QG (cxB X scope ext fp s H) tg g) (ht : ∀ fp s H, QTs (cxB X scope ext fp s H) ifs tt) (he : ∀ fp s H, QE (cxB X scope ext fp s H) elt te) (hk : compChk scope X.env X.N bs = true := by rfl) (hc : X.calm = true := by rfl) (hsw : swapsWith (.ListComp elt [⟨tg, iter, ifs, 0⟩] scope pos) (some (.Name x pos')) spos.line X.env = pure true := by rfl) (hs : ∀ x, foldedSetIterable iter X.env x = pure x := by intro _; rfl) : QS X (.Assign [.Name x pos'] (.ListComp elt [⟨tg, iter, ifs, 0⟩] scope pos) spos) (tAsg (tComp wi bs ext.length g tt te) (gName i)) := ⟨ps_lc bs ext hN hix hx hi.h (fun fp s H => (hg fp s H).h) (fun fp s H => (ht fp s H).h) (fun fp s H => (he fp s H).h) hk hc hsw hs⟩
end
section
variable {X : Cx} {o e value : Expr} {f : Str} {pos pos' tpos : Pos} {ta tv : TE}
end
section
variable {X : Cx} {pos : Pos}
theorem qs_set {i : Nat} {x : Str} {e : Expr} {te : TE} {pos' : Pos} (hN : X.N.Nodup) (hi : X.N[i]? = some x) (hx : Loc X.env.scope x) (he : QE X e te) (hs : swapsWith e (some (.Name x pos')) pos.line X.env = pure false := by rfl) (hf : X.fn x = true ∨ X.env.scope.names.lookup x = some .local := by first | exact .inl rfl | exact .inr rfl | assumption) : QS X (.Assign [.Name x pos'] e pos) (tAsg te (gName i)) := ⟨ps_set hN hi hx he.h hs hf⟩
end
section
variable {X : Cx} {pos : Pos}
theorem qs_asg {tg e : Expr} {te : TE} {g : TG} (he : QE X e te) (hg : QG X tg g) (hs : swapsWithSole [tg] e pos.line X.env = pure false := by rfl) (hw : swappedStores [tg] e X.env = pure none := by rfl) (h1 : (assignEach [tg] X.env).map (·.2) = [assign tg X.env] := by rfl) : QS X (.Assign [tg] e pos) (tAsg te g) := ⟨ps_asg he.h hg.h hs hw h1⟩
end
section
variable {X : Cx} {pos : Pos}
end
section
variable {X : Cx} {st : Stmt} {rest : List Stmt} {t u : TS} {e : Expr} {te : TE} {pos : Pos}
end
section
variable {X : Cx} {st : Stmt} {rest : List Stmt} {t u : TS} {e : Expr} {te : TE} {pos : Pos}
theorem qs_ret (he : QE X e te) : QS X (.Return (some e) pos) (tRet te) := ⟨ps_ret he.h⟩
end
section
variable {X : Cx} {st : Stmt} {rest : List Stmt} {t u : TS} {e : Expr} {te : TE} {pos : Pos}
theorem qs_if {c : Expr} {a b : List Stmt} {tc : TT} (hc : QT X c tc) (ha : QSs X a t) (hb : QSs X b u) : QS X (.If c a b pos) (tIfS tc t u) := ⟨ps_if hc.h ha.h hb.h⟩
end
section
variable {X : Cx} {tg : Expr}
theorem qs_for {iter : Expr} {body : List Stmt} {wi : TI} {g : TG} {tb : TS} {pos : Pos} (hp : PassesOwn (model X.prog X.w) X.A X.env X.xe) (hc : X.calm = true) (hi : QI X tg iter wi) (hg : QG X tg g) (hb : QSs X body tb) (hs : ∀ x, foldedSetIterable iter X.env x = pure x := by intro _; rfl) : QS X (.For tg iter body [] pos) (tFor wi g tb) := ⟨ps_for hp hc hi.h hg.h hb.h hs⟩
end
section
variable {X : Cx} {pos : Pos}
theorem qs_while {c : Expr} {body : List Stmt} {tc : TT} {tb : TS} (hp : PassesOwn (model X.prog X.w) X.A X.env X.xe) (hc : QT X c tc) (hb : QSs X body tb) : QS X (.While c body [] pos) (tWhile tc tb) := ⟨ps_while hp hc.h hb.h⟩
end
section
variable {X : Cx} {st : Stmt} {rest : List Stmt} {t u : TS} {e : Expr} {te : TE} {pos : Pos}
theorem qs_expr (he : QE X e te) (hs : swapsWith e none pos.line X.env = pure false := by rfl) : QS X (.Expr e pos) (tDrop te) := ⟨ps_expr he.h hs⟩
end
section
variable {X : Cx} {st : Stmt} {rest : List Stmt} {t u : TS} {e : Expr} {te : TE} {pos : Pos}
end
section
variable {X : Cx} {st : Stmt} {rest : List Stmt} {t u : TS} {e : Expr} {te : TE} {pos : Pos}
end
section
variable {X : Cx} {st : Stmt} {rest : List Stmt} {t u : TS} {e : Expr} {te : TE} {pos : Pos}
end
section
variable {X : Cx} {tg : Expr}
theorem qi_range1 {a : Expr} {ta : TA} {p pos : Pos} (hg : Gl X "range") (hm : X.mg "range" = none) (ha : QA X [a] ta) (hs : starEach [a] X.env = [(false, eval a X.env)] := by rfl) : QI X tg (.Call (.Name "range" p) [a] [] pos) (iRng1 ta) := ⟨pi_range1 hg hm ha.h hs⟩
end
section
variable {X : Cx} {tg : Expr}
end
section
end
section
end
section
variable {X : Cx} {K : PySem.W.Frag}
theorem qi_listK {tg l : Expr} {tl : TE} (h : X.K = K) (hl : QE X l tl) : QI X tg l (iList K tl) := ⟨pi_listK h hl.h⟩
end
section
variable {X : Cx} {K : PySem.W.Frag}
end
section
variable {X : Cx} {pos : Pos}
theorem qg_name {i : Nat} {x : Str} (hN : X.N.Nodup) (hi : X.N[i]? = some x) (hx : Loc X.env.scope x) (hf : X.fn x = true ∨ X.env.scope.names.lookup x = some .local := by first | exact .inl rfl | exact .inr rfl | assumption) : QG X (.Name x pos) (gName i) := ⟨pg_name hN hi hx hf⟩
end
section
variable {X : Cx} {K : PySem.W.Frag}
theorem qg_t2K {i j : Nat} {x y : Str} {px py pos : Pos} {kk : Nat} (h : X.K = K) (hN : X.N.Nodup) (hc : X.calm = true) (hi : X.N[i]? = some x) (hj : X.N[j]? = some y) (lx : Loc X.env.scope x) (ly : Loc X.env.scope y) (fx : X.fn x = true ∨ X.env.scope.names.lookup x = some .local) (fy : X.fn y = true ∨ X.env.scope.names.lookup y = some .local) : QG X (.Tuple [.Name x px, .Name y py] kk pos) (gTup K 2 (gCons (gName i) (gCons (gName j) gNil))) := ⟨pg_t2K h hN hc hi hj lx ly fx fy⟩
end
section
variable {X : Cx} {K : PySem.W.Frag}
theorem qg_t3K {i j k : Nat} {x y z : Str} {px py pz pos : Pos} {kk : Nat} (h : X.K = K) (hN : X.N.Nodup) (hc : X.calm = true) (hi : X.N[i]? = some x) (hj : X.N[j]? = some y) (hk : X.N[k]? = some z) (lx : Loc X.env.scope x) (ly : Loc X.env.scope y) (lz : Loc X.env.scope z) (fx : X.fn x = true ∨ X.env.scope.names.lookup x = some .local) (fy : X.fn y = true ∨ X.env.scope.names.lookup y = some .local) (fz : X.fn z = true ∨ X.env.scope.names.lookup z = some .local) : QG X (.Tuple [.Name x px, .Name y py, .Name z pz] kk pos) (gTup K 3 (gCons (gName i) (gCons (gName j) (gCons (gName k) gNil)))) := ⟨pg_t3K h hN hc hi hj hk lx ly lz fx fy fz⟩
end
section
variable {X : Cx} {pos : Pos}
end
section
variable {X : Cx} {pos : Pos}
end
section
variable {X : Cx} {pos : Pos}
end
section
variable {X : Cx} {pos : Pos}
theorem qg_sub {o i : Expr} {to ti : TE} {t : TSet} (ho : QE X o to) (hi : QE X i ti) (hs : PSet X t) (ha : ∀ v, assign (.Subscript o i pos) X.env v = (do
      let ov ← holding [v] (eval o X.env)
      let iv ← holding [v, ov] (eval i X.env)
      standAt pos
      holding [v, ov, iv] (setItem ov iv v)
      release [v, ov, iv] []) := by intro _; rfl) : QG X (.Subscript o i pos) (gSub to ti t) := ⟨pg_sub ho.h hi.h hs ha⟩
end
section
theorem qts_nil {X : Cx} : QTs X [] tYes := ⟨pts_nil ⟩
end
section
theorem qts_one {X : Cx} {c : Expr} {t : TT} (h : QT X c t) : QTs X [c] t := ⟨pts_one h.h⟩
end
section
theorem qa_c {X : Cx} {e : Expr} {es : List Expr} {te : TE} {t : TA} (ha : QE X e te) (hr : QA X es t) (h : noStar e = true := by rfl) : QA X (e :: es) (tCons te t) := ⟨pa_c ha.h hr.h h⟩
end
section
variable {X : Cx} {e : Expr} {es : List Expr} {te : TE} {t : TA} {pos : Pos}
theorem qa_nil  : QA X [] tNil := ⟨pa_nil ⟩
end
section
variable {X : Cx} {a b c : Expr} {ta tb tc : TE} {pos : Pos}
theorem qt_cmpR {op : CmpOp} {r : R2} (ho : OpR X (compareOp op) r) (ha : QE X a ta) (hb : QE X b tb) (hm : behindInMarks op b = false) : QT X (.Compare a [op] [b] pos) (tTest (tOp r ta tb)) := ⟨pt_cmpR ho ha.h hb.h hm⟩
end
section
variable {X : Cx} {a b c : Expr} {ta tb tc : TE} {pos : Pos}
end
section
theorem qw_pt {X : Cx} {e : Expr} {t : TT} (h : QW X e t) : QT X e t := ⟨PW.pt h.h⟩
end
section
variable {X : Cx}
variable {a b : Expr} {ta tb : TE} {pos : Pos}
variable {tA tB' : TT} {rest : List Expr}
theorem qw_and (ha : QT X a tA) (hb : QW X (.BoolOp .And (b :: rest) pos) tB') : QW X (.BoolOp .And (a :: b :: rest) pos) (tAnd tA tB') := ⟨pw_and ha.h hb.h⟩
end
section
variable {X : Cx}
variable {a b : Expr} {ta tb : TE} {pos : Pos}
variable {tA tB' : TT} {rest : List Expr}
theorem qw_and1 (ha : QT X a tA) : QW X (.BoolOp .And [a] pos) tA := ⟨pw_and1 ha.h⟩
end
section
variable {X : Cx}
variable {a b : Expr} {ta tb : TE} {pos : Pos}
variable {tA tB' : TT} {rest : List Expr}
theorem qw_or (ha : QT X a tA) (hb : QW X (.BoolOp .Or (b :: rest) pos) tB') : QW X (.BoolOp .Or (a :: b :: rest) pos) (tOr tA tB') := ⟨pw_or ha.h hb.h⟩
end
section
variable {X : Cx}
variable {a b : Expr} {ta tb : TE} {pos : Pos}
variable {tA tB' : TT} {rest : List Expr}
theorem qw_or1 (ha : QT X a tA) : QW X (.BoolOp .Or [a] pos) tA := ⟨pw_or1 ha.h⟩
end
section
variable {X : Cx}
variable {a b : Expr} {ta tb : TE} {pos : Pos}
variable {tA tB' : TT} {rest : List Expr}
theorem qt_not (ha : QT X a tA) : QT X (.UnaryOp .Not a pos) (tNot tA) := ⟨pt_not ha.h⟩
end
section
variable {X : Cx}
variable {a b : Expr} {ta tb : TE} {pos : Pos}
theorem qt_val {e : Expr} {t : TE} (h : QE X e t) (he : ∀ whole, isTrue e X.env whole = (do let v ← whole; standAt e.pos; holding [v] (truthy v)) := by intro _; rfl) : QT X e (tB t) := ⟨pt_val h.h he⟩
end
section
variable {X : Cx} {K : PySem.W.Frag}
theorem qt_truthK {a : Expr} {ta : TE} (h : X.K = K) (ha : QE X a ta) (he : ∀ whole, isTrue a X.env whole = (do let v ← whole; standAt a.pos; holding [v] (truthy v))) : QT X a (tTru K ta) := ⟨pt_truthK h ha.h he⟩
end
section
variable {X : Cx}
theorem qe_non {j pos} : QE X (.Constant .none j pos) (tC .non) := ⟨pe_non ⟩
end
section
variable {X : Cx}
theorem qe_bl {b j pos} : QE X (.Constant (.bool b) j pos) (tC (.bl b)) := ⟨pe_bl ⟩
end
section
variable {X : Cx}
theorem qe_int {i j pos} : QE X (.Constant (.int i) j pos) (tC (.int i)) := ⟨pe_int ⟩
end
section
variable {X : Cx}
theorem qe_str {x j pos} : QE X (.Constant (.str x) j pos) (tC (.str x)) := ⟨pe_str ⟩
end
section
variable {X : Cx}
theorem qv (i : Nat) {x : Str} {pos : Pos} (hN : X.N[i]? = some x := by rfl) (hv : Vis X.env.scope x := by first | exact Or.inl rfl | exact Or.inr (Or.inl rfl) | exact Or.inr (Or.inr rfl)) (hd : (x == ("__debug__" : Str)) = false := by decide) (hcd : (x == ("__classdict__" : Str)) = false := by decide) : QE X (.Name x pos) (tVar i) := ⟨pv i hN hv hd hcd⟩
end
section
variable {X : Cx} {a b c : Expr} {ta tb tc : TE} {pos : Pos}
theorem qe_un {op : UnaryOp} {r : V → Hp → VK → Prop} (ho : UnR X (unaryOp op) r) (ha : QE X a ta) : QE X (.UnaryOp op a pos) (tUn r ta) := ⟨pe_un ho ha.h⟩
end
section
variable {X : Cx}
variable {a b : Expr} {ta tb : TE} {pos : Pos}
variable {tA tB' : TT} {rest : List Expr}
end
section
variable {X : Cx} {a b c : Expr} {ta tb tc : TE} {pos : Pos}
theorem qe_op {op : Operator} {r : R2} (ho : OpR X (binaryOp op) r) (ha : QE X a ta) (hb : QE X b tb) : QE X (.BinOp a op b pos) (tOp r ta tb) := ⟨pe_op ho ha.h hb.h⟩
end
section
variable {X : Cx} {a b c : Expr} {ta tb tc : TE} {pos : Pos}
theorem qe_cmpR {op : CmpOp} {r : R2} (ho : OpR X (compareOp op) r) (ha : QE X a ta) (hb : QE X b tb) (hm : behindInMarks op b = false) : QE X (.Compare a [op] [b] pos) (tOp r ta tb) := ⟨pe_cmpR ho ha.h hb.h hm⟩
end
section
variable {X : Cx} {a b c : Expr} {ta tb tc : TE} {pos : Pos}
theorem qe_chain {op op' : CmpOp} {r r' : R2} (ho : OpR X (compareOp op) r) (ho' : OpR X (compareOp op') r') (ha : QE X a ta) (hb : QE X b tb) (hc : QE X c tc) (hm : lastMarks [op, op'] [b, c] = false := by with_unfolding_all rfl) : QE X (.Compare a [op, op'] [b, c] pos) (tChain r r' ta tb tc) := ⟨pe_chain ho ho' ha.h hb.h hc.h hm⟩
end
section
variable {X : Cx}
variable {a b : Expr} {ta tb : TE} {pos : Pos}
variable {tA tB' : TT} {rest : List Expr}
theorem qe_one {op} {t : TE} (h : QE X a t) : QE X (.BoolOp op [a] pos) t := ⟨pe_one h.h⟩
end
section
variable {X : Cx}
variable {a b : Expr} {ta tb : TE} {pos : Pos}
variable {tA tB' : TT} {rest : List Expr}
theorem qe_and (ha : QE X a ta) (hb : QE X (.BoolOp .And (b :: rest) pos) tb) : QE X (.BoolOp .And (a :: b :: rest) pos) (tAndV ta tb) := ⟨pe_and ha.h hb.h⟩
end
section
variable {X : Cx}
variable {a b : Expr} {ta tb : TE} {pos : Pos}
variable {tA tB' : TT} {rest : List Expr}
end
section
variable {X : Cx}
variable {a b : Expr} {ta tb : TE} {pos : Pos}
variable {tA tB' : TT} {rest : List Expr}
theorem qe_ifExp {c : Expr} (hc : QT X c tA) (ha : QE X a ta) (hb : QE X b tb) : QE X (.IfExp c a b pos) (tIf tA ta tb) := ⟨pe_ifExp hc.h ha.h hb.h⟩
end
section
variable {X : Cx} {e : Expr} {es : List Expr} {te : TE} {t : TA} {pos : Pos}
theorem qe_lst (h : QA X es t) : QE X (.List es pos) (tLst t) := ⟨pe_lst h.h⟩
end
section
variable {X : Cx} {e : Expr} {es : List Expr} {te : TE} {t : TA} {pos : Pos}
theorem qe_tup {x1} (h : QA X es t) : QE X (.Tuple es x1 pos) (tTup t) := ⟨pe_tup h.h⟩
end
section
end
section
variable {X : Cx} {e : Expr} {te : TE} {lo hi : Option Expr} {tl th : TO} {pos p2 : Pos}
theorem qe_slice {r : V → Option Int → Option Int → Hp → VK → Prop} (hr : SlR X r) (he : QE X e te) (hl : QO X lo tl) (hu : QO X hi th) : QE X (.Subscript e (.Slice lo hi none p2) pos) (tSl r te tl th) := ⟨pe_slice hr he.h hl.h hu.h⟩
end
section
variable {X : Cx} {e : Expr} {te : TE} {lo hi : Option Expr} {tl th : TO} {pos p2 : Pos}
theorem qo_some (h : QE X e te) : QO X (some e) (tPart te) := ⟨po_some h.h⟩
end
section
variable {X : Cx} {e : Expr} {te : TE} {lo hi : Option Expr} {tl th : TO} {pos p2 : Pos}
theorem qo_none  : QO X none tNoPart := ⟨po_none ⟩
end
section
variable {X : Cx} {a b : Expr} {ta tb : TE} {pos : Pos}
theorem qe_ix {r : R2} (hr : IxR X r) (ha : QE X a ta) (hb : QE X b tb) (hs : PlainIx b) : QE X (.Subscript a b pos) (tOp r ta tb) := ⟨pe_ix hr ha.h hb.h hs⟩
end
section
variable {X : Cx} {o i e value : Expr} {pos pos' tpos : Pos} {td ty tv : TE}
theorem qe_dget (hu : X.A.units + 1 < cLine) (ho : QE X o td) (hi : QE X i ty) (hs : NoSl i) : QE X (.Subscript o i pos) (tDGet td ty) := ⟨pe_dget hu ho.h hi.h hs⟩
end
section
variable {X : Cx} {o e value : Expr} {f : Str} {pos pos' tpos : Pos} {ta tv : TE}
end
section
variable {X : Cx} {elt tg iter : Expr} {ifs : List Expr} {scope : Scope} {bs : List Bool} {ext : List Str} {pos : Pos} {wi : TI} {g : TG} {tt : TT} {te : TE}
theorem qe_lc (bs : List Bool) (ext : List Str) (hi : QI X tg iter wi) (hg : ∀ fp s H, QG (cxB X scope ext fp s H) tg g) (ht : ∀ fp s H, QTs (cxB X scope ext fp s H) ifs tt) (he : ∀ fp s H, QE (cxB X scope ext fp s H) elt te) (hk : compChk scope X.env X.N bs = true := by rfl) (hc : X.calm = true := by rfl) (hs : ∀ x, foldedSetIterable iter X.env x = pure x := by intro _; rfl) : QE X (.ListComp elt [⟨tg, iter, ifs, 0⟩] scope pos) (tComp wi bs ext.length g tt te) := ⟨pe_lc bs ext hi.h (fun fp s H => (hg fp s H).h) (fun fp s H => (ht fp s H).h) (fun fp s H => (he fp s H).h) hk hc hs⟩
end
section
theorem qe_disp {X : Cx} {pos : Pos} {keys : List (Option Expr)} {values : List Expr} {trs : List (TE × TE)} (h : QPs X pos keys values trs) (hall : keys.all (·.isSome) = true) (hl : keys.length = values.length) (h0 : keys ≠ []) (h15 : keys.length ≤ 15) : QE X (.Dict keys values pos) (tDisp trs) := ⟨pe_disp h.h hall hl h0 h15⟩
end
section
theorem qps_nil {X : Cx} {pos : Pos} : QPs X pos [] [] [] := ⟨pps_nil ⟩
end
section
theorem qps_cons {X : Cx} {pos : Pos} {k v : Expr} {ks : List (Option Expr)} {vs : List Expr} {tk tv : TE} {trs : List (TE × TE)} (hk : QE X k tk) (hv : QE X v tv) (hr : QPs X pos ks vs trs) : QPs X pos (some k :: ks) (v :: vs) ((tk, tv) :: trs) := ⟨pps_cons hk.h hv.h hr.h⟩
end
section
variable {X : Cx} {x : Str} {k : Nat} {ps : List Str} {sp : Sp} {p pos : Pos} {e : Expr} {es : List Expr} {t : TA}
theorem qe_def (D : Def X.prog X.w X.K X.mg X.base x k ps sp) (hr : Room k X.A) (ha : QA X (e :: es) t) (hg : Gl X x := by rfl) (hdb : (x == ("__debug__" : Str)) = false := by decide) (he : starEach (e :: es) X.env = (false, eval e X.env) :: starEach es X.env := by rfl) (hpl : (backTo pos (starEach es X.env)).any (·.1) = false := by rfl) : QE X (.Call (.Name x p) (e :: es) [] pos) (tCall sp [] E0 t) := ⟨pe_def D hr ha.h hg hdb he hpl⟩
end
section
variable {X : Cx} {x : Str} {k : Nat} {ps : List Str} {sp : Sp} {p pos : Pos} {e : Expr} {es : List Expr} {t : TA}
end
section
variable {X : Cx} {x : Str} {p pos : Pos} {e : Expr} {es : List Expr} {t : TA} {id T : String} {r : List V → Hp → VK → Prop}
theorem qe_callB (hc : CallR X (.builtin id) r) (hg : Gl X x) (hm : X.mg x = none) (hv : bootBuiltins x = some (.builtin id)) (ha : QA X (e :: es) t) (hn : x ≠ "__name__" := by decide) (hdb : (x == ("__debug__" : Str)) = false := by decide) (he : starEach (e :: es) X.env = (false, eval e X.env) :: starEach es X.env := by rfl) (hpl : (backTo pos (starEach es X.env)).any (·.1) = false := by rfl) : QE X (.Call (.Name x p) (e :: es) [] pos) (tCB r t) := ⟨pe_callB hc hg hm hv ha.h hn hdb he hpl⟩
end
section
variable {X : Cx} {x : Str} {p pos : Pos} {e : Expr} {es : List Expr} {t : TA} {id T : String} {r : List V → Hp → VK → Prop}
theorem qe_callTy (hc : CallR X (.type T) r) (hg : Gl X x) (hm : X.mg x = none) (hv : bootBuiltins x = some (.type T)) (ha : QA X (e :: es) t) (hn : x ≠ "__name__" := by decide) (hdb : (x == ("__debug__" : Str)) = false := by decide) (he : starEach (e :: es) X.env = (false, eval e X.env) :: starEach es X.env := by rfl) (hpl : (backTo pos (starEach es X.env)).any (·.1) = false := by rfl) : QE X (.Call (.Name x p) (e :: es) [] pos) (tCB r t) := ⟨pe_callTy hc hg hm hv ha.h hn hdb he hpl⟩
end
section
variable {X : Cx}
theorem qe_bltn {x : Str} {v : V} {u : Value} {pos : Pos} (hg : Gl X x) (hm : X.mg x = none) (hv : bootBuiltins x = some u) (r : RelV v u) (hn : x ≠ "__name__" := by decide) (hd : (x == ("__debug__" : Str)) = false := by decide) : QE X (.Name x pos) (tC v) := ⟨pe_bltn hg hm hv r hn hd⟩
end
section
variable {X : Cx} {a b : Expr} {ta tb : TE} {pos : Pos}
variable {o e : Expr} {es : List Expr} {to : TE} {t : TA} {name : Str} {apos cpos : Pos} {T id : String} {r : V → List V → Hp → VK → Prop}
theorem qe_bm (pa : PlainAttrs T) (slot : Slot T name id) (hty : typeOf (.builtin id) = pure (.type "method_descriptor")) (hm : MtR X id r) (ho : QE X o to) (ha : QA X (e :: es) t) (hbase : attributeBase o name X.env (eval o X.env) = eval o X.env := by rfl) (hfew : ((backTo cpos (starEach (e :: es) X.env)).all (fun x => !x.1) && (backToKw cpos (keywordEach [] X.env)).all (fun x => x.1.isSome)
      && decide ((e :: es).length + ([] : List Keyword).length + (if ([] : List Keyword).isEmpty then 0 else 1) < 30)) = true := by rfl) (hline : (apos.endLine == cpos.line) = true := by rfl) (hs : starEach (e :: es) X.env = (false, eval e X.env) :: starEach es X.env := by rfl) (hplain : (backTo cpos (starEach es X.env)).any (·.1) = false := by rfl) : QE X (.Call (.Attribute o name apos) (e :: es) [] cpos) (tBM X.K T r to t) := ⟨pe_bm pa slot hty hm ho.h ha.h hbase hfew hline hs hplain⟩
end
section
variable {X : Cx} {a b : Expr} {ta tb : TE} {pos : Pos}
variable {o e : Expr} {es : List Expr} {to : TE} {t : TA} {name : Str} {apos cpos : Pos} {T id : String} {r : V → List V → Hp → VK → Prop}
end
section
variable {X : Cx} {K : PySem.W.Frag}
theorem qe_lm {o e : Expr} {es : List Expr} {to : TE} {t : TA} {name : Str} {apos cpos : Pos} {id : String} {r : V → List V → Hp → VK → Prop} (slot : Slot "list" name id) (hty : typeOf (.builtin id) = pure (.type "method_descriptor")) (hm : MtR X id r) (ho : QE X o to) (ha : QA X (e :: es) t) (hbase : attributeBase o name X.env (eval o X.env) = eval o X.env := by rfl) (hfew : ((backTo cpos (starEach (e :: es) X.env)).all (fun x => !x.1) && (backToKw cpos (keywordEach [] X.env)).all (fun x => x.1.isSome)
      && decide ((e :: es).length + ([] : List Keyword).length + (if ([] : List Keyword).isEmpty then 0 else 1) < 30)) = true := by rfl) (hline : (apos.endLine == cpos.line) = true := by rfl) (hs : starEach (e :: es) X.env = (false, eval e X.env) :: starEach es X.env := by rfl) (hplain : (backTo cpos (starEach es X.env)).any (·.1) = false := by rfl) : QE X (.Call (.Attribute o name apos) (e :: es) [] cpos) (tLM r to t) := ⟨pe_lm slot hty hm ho.h ha.h hbase hfew hline hs hplain⟩
end
section
end
section
theorem qe_gint {X : Cx} {x : Str} {n : Int} {pos : Pos} (G : GInt X.mg x n) (hg : Gl X x) (hd : (x == ("__debug__" : Str)) = false := by decide) : QE X (.Name x pos) (tC (.int n)) := ⟨pe_gint G hg hd⟩
end
end L2

namespace L2
open PySem PySem.Spec PyProof.Rows
section
variable {X : Cx} {o i e value : Expr} {pos pos' tpos : Pos} {td ty tv : TE}
theorem qe_dnotin (hu : X.A.units + 1 < cLine) (hi : QE X i ty) (ho : QE X o td) (h1 : behindInMarks .NotIn o = false := by with_unfolding_all rfl) : QE X (.Compare i [.NotIn] [o] pos) (tDNotIn ty td) := ⟨pe_cmp (pc_dnotin hu hi.h ho.h) h1⟩
theorem qt_din (hu : X.A.units + 1 < cLine) (hi : QE X i ty) (ho : QE X o td) (h1 : behindInMarks .In o = false := by with_unfolding_all rfl) : QT X (.Compare i [.In] [o] pos) (tB (tDIn ty td)) := ⟨pt_cmp (pc_din hu hi.h ho.h) h1⟩
theorem qs_dput (hu : X.A.units + 1 < cLine) (ho : QE X o td) (hi : QE X i ty) (hv : QE X value tv) (hs : swapsWith value (some (.Subscript o i pos')) pos.line X.env = pure false := by rfl) : QS X (.Assign [.Subscript o i pos'] value pos) (sDPut td ty tv) := ⟨ps_dput hu ho.h hi.h hv.h hs⟩
theorem qe_dnew : QE X (.Dict [] [] pos) tDNewK := ⟨pe_dnewK⟩
theorem qe_glob {x : Str} {v : V} {u : Value} {pos : Pos} (hg : Gl X x) (hm : X.mg x = some u) (r : RelV v u) (hd : (x == ("__debug__" : Str)) = false := by decide) : QE X (.Name x pos) (tC v) := ⟨pe_glob hg hm r hd⟩
end
end L2

namespace PySem
theorem Paired.of_get {α β : Type} {F : α → β → Prop} : ∀ {l : List α} {m : List β}, l.length = m.length → (∀ (i : Nat) x y, l[i]? = some x → m[i]? = some y → F x y) → Paired F l m
  | [], [], _, _ => .nil
  | [], _ :: _, h, _ => by simp at h
  | _ :: _, [], h, _ => by simp at h
  | x :: l, y :: m, h, r => .cons (r 0 x y rfl rfl) (Paired.of_get (by simpa using h) fun i a b ha hb => r (i + 1) a b (by simpa using ha) (by simpa using hb))
theorem Paired.len {α β : Type} {F : α → β → Prop} : ∀ {l : List α} {m : List β}, Paired F l m → l.length = m.length
  | _, _, .nil => rfl
  | _, _, .cons _ t => by rw [List.length_cons, List.length_cons, Paired.len t]
theorem Paired.get2 {α β : Type} {F : α → β → Prop} : ∀ {l : List α} {m : List β} {i : Nat} {x : α} {y : β}, Paired F l m → l[i]? = some x → m[i]? = some y → F x y
  | _, _, _, _, _, .nil, h, _ => by simp at h
  | _, _, 0, _, _, .cons r _, h, k => by simp at h k; subst h k; exact r
  | _, _, i + 1, _, _, .cons _ t, h, k => Paired.get2 (i := i) t (by simpa using h) (by simpa using k)
theorem Paired.getR {α β : Type} {F : α → β → Prop} {l : List α} {m : List β} {i : Nat} {y : β} (h : Paired F l m) (e : m[i]? = some y) : ∃ x, l[i]? = some x ∧ F x y := by
  have hl := h.len
  have hi := (List.getElem?_eq_some_iff.mp e).1
  have hx : l[i]? = some (l[i]'(by omega)) := List.getElem?_eq_getElem (by omega)
  exact ⟨_, hx, h.get2 hx e⟩
theorem Paired.getL {α β : Type} {F : α → β → Prop} {l : List α} {m : List β} {i : Nat} {x : α} (h : Paired F l m) (e : l[i]? = some x) : ∃ y, m[i]? = some y ∧ F x y := by
  have hl := h.len
  have hi := (List.getElem?_eq_some_iff.mp e).1
  have hx : m[i]? = some (m[i]'(by omega)) := List.getElem?_eq_getElem (by omega)
  exact ⟨_, hx, h.get2 e hx⟩
theorem Paired.app {α β : Type} {F : α → β → Prop} : ∀ {l l' : List α} {m m' : List β}, Paired F l m → Paired F l' m' → Paired F (l ++ l') (m ++ m')
  | _, _, _, _, .nil, h => h
  | _, _, _, _, .cons r t, h => .cons r (Paired.app t h)
theorem Paired.put {α β : Type} {F : α → β → Prop} {x : α} {y : β} (r : F x y) : ∀ {l : List α} {m : List β} (i : Nat), Paired F l m → Paired F (l.set i x) (m.set i y)
  | _, _, _, .nil => .nil
  | _, _, 0, .cons _ t => .cons r t
  | _, _, i + 1, .cons q t => .cons q (Paired.put r i t)
theorem Paired.tk {α β : Type} {F : α → β → Prop} : ∀ {l : List α} {m : List β} (n : Nat), Paired F l m → Paired F (l.take n) (m.take n)
  | _, _, 0, _ => .nil
  | _, _, _ + 1, .nil => .nil
  | _, _, n + 1, .cons r t => .cons r (Paired.tk n t)
theorem Paired.dr {α β : Type} {F : α → β → Prop} : ∀ {l : List α} {m : List β} (n : Nat), Paired F l m → Paired F (l.drop n) (m.drop n)
  | _, _, 0, r => r
  | _, _, _ + 1, .nil => .nil
  | _, _, n + 1, .cons _ t => Paired.dr n t
theorem Paired.erase {α β : Type} {F : α → β → Prop} : ∀ {l : List α} {m : List β} (n : Nat), Paired F l m → Paired F (l.eraseIdx n) (m.eraseIdx n)
  | _, _, _, .nil => .nil
  | _, _, 0, .cons _ t => t
  | _, _, n + 1, .cons r t => .cons r (Paired.erase n t)
theorem Paired.mapR {α β γ : Type} {F : α → β → Prop} {G : α → γ → Prop} {f : β → γ} (h : ∀ a b, F a b → G a (f b)) : ∀ {l : List α} {m : List β}, Paired F l m → Paired G l (m.map f)
  | _, _, .nil => .nil
  | _, _, .cons r t => .cons (h _ _ r) (Paired.mapR h t)
theorem Paired.unmapR {α β γ : Type} {F : α → β → Prop} {G : α → γ → Prop} {f : β → γ} (h : ∀ a b, G a (f b) → F a b) : ∀ {m : List β} {l : List α}, Paired G l (m.map f) → Paired F l m
  | [], _, .nil => .nil
  | _ :: m, _, .cons r t => .cons (h _ _ r) (Paired.unmapR h (m := m) t)
theorem Paired.empt {α β : Type} {F : α → β → Prop} {l : List α} {m : List β} (h : Paired F l m) : l.isEmpty = m.isEmpty := by cases h <;> rfl
end PySem
namespace L2
open PySem PySem.Spec PyProof.Rows
/-! ### trees, things that change, and how they lie in the heap -/
/-- what never changes, whole -/
inductive T where
  | non | bl (b : Bool) | int (i : Int) | str (x : Str) | tup (xs : List T) | lst (xs : List T)
/-- a tree, or the name of a thing that changes -/
inductive U where
  | p (t : T) | m (k : Nat)
inductive MO where
  | lst (us : List U) | tup (us : List U) | ins (C : Addr) (fs : List (Str × U)) | dK (kvs : List (Key × U))
abbrev MM := List MO
abbrev UEnv := List (Option U)
inductive RepT (A : Addr → Prop) (H : Hp) : V → T → Prop
  | non : RepT A H .non .non
  | bl (b : Bool) : RepT A H (.bl b) (.bl b)
  | int (i : Int) : RepT A H (.int i) (.int i)
  | str (x : Str) : RepT A H (.str x) (.str x)
  | tup {p : Addr} {vs : List V} {ts : List T} (na : ¬ A p) (e : H p = some (.tup vs)) (l : vs.length = ts.length) (r : ∀ (i : Nat) v t, vs[i]? = some v → ts[i]? = some t → RepT A H v t) : RepT A H (.ref p) (.tup ts)
  | lst {p : Addr} {vs : List V} {ts : List T} (na : ¬ A p) (e : H p = some (.lst vs)) (l : vs.length = ts.length) (r : ∀ (i : Nat) v t, vs[i]? = some v → ts[i]? = some t → RepT A H v t) : RepT A H (.ref p) (.lst ts)
section
variable {A A' : Addr → Prop} {H H' : Hp} {v : V} {t : T} {ι ι' : List Addr} {M M' : MM} {u : U} {σ : St} {ρ : UEnv}
abbrev RepTs (A : Addr → Prop) (H : Hp) : List V → List T → Prop := Paired (RepT A H)
theorem RepT.tupP {p : Addr} {vs : List V} {ts : List T} (na : ¬ A p) (e : H p = some (.tup vs)) (r : RepTs A H vs ts) : RepT A H (.ref p) (.tup ts) := .tup na e r.len fun i v t h k => r.get2 h k
theorem RepT.lstP {p : Addr} {vs : List V} {ts : List T} (na : ¬ A p) (e : H p = some (.lst vs)) (r : RepTs A H vs ts) : RepT A H (.ref p) (.lst ts) := .lst na e r.len fun i v t h k => r.get2 h k
theorem RepT.mono (h : ∀ x o, ¬ A x → H x = some o → H' x = some o ∧ ¬ A' x) (r : RepT A H v t) : RepT A' H' v t := by
  induction r with
  | non => exact .non
  | bl b => exact .bl b
  | int i => exact .int i
  | str x => exact .str x
  | tup na e l r ih => exact .tup (h _ _ na e).2 (h _ _ na e).1 l ih
  | lst na e l r ih => exact .lst (h _ _ na e).2 (h _ _ na e).1 l ih
theorem RepT.tup_inv {ts : List T} (r : RepT A H v (.tup ts)) : ∃ p vs, v = .ref p ∧ ¬ A p ∧ H p = some (.tup vs) ∧ RepTs A H vs ts := by
  cases r with
  | tup na e l r => exact ⟨_, _, rfl, na, e, Paired.of_get l r⟩
theorem RepT.lst_inv {ts : List T} (r : RepT A H v (.lst ts)) : ∃ p vs, v = .ref p ∧ ¬ A p ∧ H p = some (.lst vs) ∧ RepTs A H vs ts := by
  cases r with
  | lst na e l r => exact ⟨_, _, rfl, na, e, Paired.of_get l r⟩
def Av (A : Addr → Prop) (ι : List Addr) : Addr → Prop := fun x => A x ∨ x ∈ ι
inductive RepU (A : Addr → Prop) (ι : List Addr) (H : Hp) : V → U → Prop
  | p {v : V} {t : T} (r : RepT (Av A ι) H v t) : RepU A ι H v (.p t)
  | m {k : Nat} {a : Addr} (e : ι[k]? = some a) : RepU A ι H (.ref a) (.m k)
abbrev RepUs (A : Addr → Prop) (ι : List Addr) (H : Hp) : List V → List U → Prop := Paired (RepU A ι H)
def ObjR (A : Addr → Prop) (ι : List Addr) (H : Hp) (a : Addr) : MO → Prop
  | .lst us => ∃ vs, H a = some (.lst vs) ∧ RepUs A ι H vs us
  | .tup us => ∃ vs, H a = some (.tup vs) ∧ RepUs A ι H vs us
  | .ins C fs => ∃ dx gs, H a = some (.ins C dx gs) ∧ H dx = some (.own a) ∧ dx ∉ ι ∧ Paired (fun (g : Str × V) (f : Str × U) => g.1 = f.1 ∧ RepU A ι H g.2 f.2) gs fs
  | .dK kvs => ∃ gs, H a = some (.dK gs) ∧ Paired (fun (g : Key × V) (f : Key × U) => g.1 = f.1 ∧ RepU A ι H g.2 f.2) gs kvs
structure Wd (A : Addr → Prop) (ι : List Addr) (H : Hp) (M : MM) : Prop where
  nd : ι.Nodup
  len : ι.length = M.length
  dom : ∀ x, A x → H x ≠ none
  na : ∀ x ∈ ι, ¬ A x
  obj : ∀ (k : Nat) a o, ι[k]? = some a → M[k]? = some o → ObjR A ι H a o
structure Le (ι : List Addr) (H : Hp) (ι' : List Addr) (H' : Hp) : Prop where
  ext : ∃ n, ι' = ι ++ n ∧ ∀ x ∈ n, H x = none
  fr : ∀ x o, H x = some o → x ∉ ι → H' x = some o
  al : ∀ x, H x ≠ none → H' x ≠ none
theorem Le.refl (ι : List Addr) (H : Hp) : Le ι H ι H := ⟨⟨[], by simp, by simp⟩, fun _ _ h _ => h, fun _ h => h⟩
theorem Le.trans {ι2 : List Addr} {H2 : Hp} (a : Le ι H ι' H') (b : Le ι' H' ι2 H2) : Le ι H ι2 H2 := by
  obtain ⟨n, rfl, hn⟩ := a.ext
  obtain ⟨m, rfl, hm⟩ := b.ext
  have key : ∀ x, H x ≠ none → x ∉ ι → x ∉ ι ++ n := fun x hx h z => by
    rcases List.mem_append.mp z with z | z
    · exact h z
    · exact hx (hn x z)
  refine ⟨⟨n ++ m, by rw [List.append_assoc], fun x hx => ?_⟩, fun x o e h => b.fr x o (a.fr x o e h) (key x (by rw [e]; simp) h), fun x h => b.al x (a.al x h)⟩
  rcases List.mem_append.mp hx with z | z
  · exact hn x z
  · cases q : H x with
    | none => rfl
    | some o => exact absurd (hm x z) (a.al x (by rw [q]; simp))
theorem Le.av (l : Le ι H ι' H') {x : Addr} {o : HO} (h : ¬ Av A ι x) (e : H x = some o) : H' x = some o ∧ ¬ Av A ι' x := by
  obtain ⟨n, rfl, hn⟩ := l.ext
  refine ⟨l.fr x o e fun z => h (.inr z), fun z => ?_⟩
  rcases z with z | z
  · exact h (.inl z)
  · rcases List.mem_append.mp z with z | z
    · exact h (.inr z)
    · rw [hn x z] at e; cases e
theorem RepT.le (l : Le ι H ι' H') (r : RepT (Av A ι) H v t) : RepT (Av A ι') H' v t := r.mono fun _ _ h e => l.av h e
theorem RepU.le (l : Le ι H ι' H') (r : RepU A ι H v u) : RepU A ι' H' v u := by
  cases r with
  | p r => exact .p (r.le l)
  | m e =>
    obtain ⟨n, rfl, _⟩ := l.ext
    exact .m (by rw [List.getElem?_append_left (List.getElem?_eq_some_iff.mp e).1]; exact e)
theorem RepUs.le {vs : List V} {us : List U} (l : Le ι H ι' H') (r : RepUs A ι H vs us) : RepUs A ι' H' vs us := Paired.mapP r fun _ _ q => q.le l
theorem ObjR.some {a : Addr} {o : MO} (r : ObjR A ι H a o) : ∃ h, H a = some h := by
  cases o with
  | lst => obtain ⟨vs, e, _⟩ := r; exact ⟨_, e⟩
  | tup => obtain ⟨vs, e, _⟩ := r; exact ⟨_, e⟩
  | ins => obtain ⟨_, _, e, _⟩ := r; exact ⟨_, e⟩
  | dK => obtain ⟨_, e, _⟩ := r; exact ⟨_, e⟩
theorem ObjR.le' {a : Addr} {o : MO} (l : Le ι H ι' H') (ea : H' a = H a) (eo : ∀ x, H x = Option.some (.own a) → H' x = H x) (r : ObjR A ι H a o) : ObjR A ι' H' a o := by
  cases o with
  | lst => obtain ⟨vs, e, r⟩ := r; exact ⟨vs, by rw [ea]; exact e, Paired.mapP r fun _ _ q => q.le l⟩
  | tup => obtain ⟨vs, e, r⟩ := r; exact ⟨vs, by rw [ea]; exact e, Paired.mapP r fun _ _ q => q.le l⟩
  | ins =>
    obtain ⟨dx, gs, e, ed, nd, r⟩ := r
    obtain ⟨n, rfl, hn⟩ := l.ext
    refine ⟨dx, gs, by rw [ea]; exact e, by rw [eo dx ed]; exact ed, fun z => ?_, Paired.mapP r fun _ _ q => ⟨q.1, q.2.le l⟩⟩
    rcases List.mem_append.mp z with z | z
    · exact nd z
    · rw [hn dx z] at ed; cases ed
  | dK => obtain ⟨gs, e, r⟩ := r; exact ⟨gs, by rw [ea]; exact e, Paired.mapP r fun _ _ q => ⟨q.1, q.2.le l⟩⟩
theorem Wd.al (w : Wd A ι H M) {k : Nat} {a : Addr} (e : ι[k]? = some a) : ∃ o, M[k]? = some o ∧ ObjR A ι H a o := by
  have h := (List.getElem?_eq_some_iff.mp e).1
  have e2 : M[k]? = some (M[k]'(by rw [← w.len]; exact h)) := List.getElem?_eq_getElem _
  exact ⟨_, e2, w.obj k a _ e e2⟩
theorem Wd.at (w : Wd A ι H M) {k : Nat} {o : MO} (e : M[k]? = some o) : ∃ a, ι[k]? = some a ∧ ObjR A ι H a o := by
  have h := (List.getElem?_eq_some_iff.mp e).1
  have e2 : ι[k]? = some (ι[k]'(by rw [w.len]; exact h)) := List.getElem?_eq_getElem _
  exact ⟨_, e2, w.obj k _ _ e2 e⟩
theorem Wd.mem_some (w : Wd A ι H M) {a : Addr} (h : a ∈ ι) : ∃ o, H a = some o := by
  obtain ⟨k, e⟩ := List.getElem?_of_mem h
  obtain ⟨o, _, r⟩ := w.al e
  exact r.some
theorem Wd.not_own (w : Wd A ι H M) {a x : Addr} (h : a ∈ ι) : H a ≠ some (.own x) := fun z => by
  obtain ⟨k, e⟩ := List.getElem?_of_mem h
  obtain ⟨o, _, r⟩ := w.al e
  cases o with
  | lst => obtain ⟨vs, e, _⟩ := r; rw [z] at e; cases e
  | tup => obtain ⟨vs, e, _⟩ := r; rw [z] at e; cases e
  | ins => obtain ⟨_, _, e, _⟩ := r; rw [z] at e; cases e
  | dK => obtain ⟨_, e, _⟩ := r; rw [z] at e; cases e
theorem Le.fresh {p : Addr} {o : HO} (h : H p = none) : Le ι H ι (upd H p o) := ⟨⟨[], by simp, by simp⟩, fun x o' e _ => upd_old h e, fun x e => by
  by_cases z : x = p
  · subst z; rw [upd_same]; simp
  · rw [upd_ne z]; exact e⟩
theorem Le.push {p : Addr} {o : HO} (h : H p = none) : Le ι H (ι ++ [p]) (upd H p o) := ⟨⟨[p], rfl, fun x hx => by rw [List.mem_singleton.mp hx]; exact h⟩, (Le.fresh (ι := ι) h).fr, (Le.fresh (ι := ι) h).al⟩
theorem Le.put {p : Addr} {o : HO} (h : p ∈ ι) : Le ι H ι (upd H p o) := ⟨⟨[], by simp, by simp⟩, fun x o' e n => by rw [upd_ne (fun z => n (by rw [z]; exact h))]; exact e, fun x e => by
  by_cases z : x = p
  · subst z; rw [upd_same]; simp
  · rw [upd_ne z]; exact e⟩
theorem Wd.fresh (w : Wd A ι H M) {p : Addr} {o : HO} (h : H p = none) : Wd A ι (upd H p o) M :=
  ⟨w.nd, w.len, fun x hx => (Le.fresh (ι := ι) h).al x (w.dom x hx), w.na, fun k a ob e1 e2 => (w.obj k a ob e1 e2).le' (.fresh h) (upd_ne fun z => by
    obtain ⟨q, hq⟩ := w.mem_some (List.mem_of_getElem? e1)
    rw [z, h] at hq; cases hq) fun x ex => upd_ne fun z => by rw [z, h] at ex; cases ex⟩
theorem Wd.nin (w : Wd A ι H M) {p : Addr} (h : H p = none) : p ∉ ι := fun z => by
  obtain ⟨q, hq⟩ := w.mem_some z
  rw [h] at hq; cases hq
theorem Wd.nA (w : Wd A ι H M) {p : Addr} (h : H p = none) : ¬ Av A ι p := fun z => z.elim (fun z => w.dom p z h) (w.nin h)
theorem Wd.push (w : Wd A ι H M) {p : Addr} {o : HO} {mo : MO} (h : H p = none) (new : ObjR A (ι ++ [p]) (upd H p o) p mo) : Wd A (ι ++ [p]) (upd H p o) (M ++ [mo]) := by
  have np := w.nin h
  refine ⟨List.nodup_append.mpr ⟨w.nd, by simp, fun a ha b hb => ?_⟩, by simp [w.len], fun x hx => (Le.fresh (ι := ι) h).al x (w.dom x hx), fun x hx => ?_, fun k a ob e1 e2 => ?_⟩
  · rw [List.mem_singleton.mp hb]; exact fun z => np (by rw [← z]; exact ha)
  · rcases List.mem_append.mp hx with z | z
    · exact w.na x z
    · rw [List.mem_singleton.mp z]; exact fun z => w.dom p z h
  · by_cases hk : k < ι.length
    · rw [List.getElem?_append_left hk] at e1
      rw [List.getElem?_append_left (by rw [← w.len]; exact hk)] at e2
      exact (w.obj k a ob e1 e2).le' (.push h) (upd_ne fun z => np (by rw [← z]; exact List.mem_of_getElem? e1)) fun x ex => upd_ne fun z => by rw [z, h] at ex; cases ex
    · have hk2 := (List.getElem?_eq_some_iff.mp e1).1
      rw [List.length_append, List.length_singleton] at hk2
      have : k = ι.length := by omega
      subst this
      rw [List.getElem?_append_right (Nat.le_refl _), Nat.sub_self] at e1
      rw [w.len, List.getElem?_append_right (Nat.le_refl _), Nat.sub_self] at e2
      simp at e1 e2
      subst e1 e2
      exact new
theorem Wd.put (w : Wd A ι H M) {k : Nat} {p : Addr} {o : HO} {mo : MO} (e : ι[k]? = some p) (new : ObjR A ι (upd H p o) p mo) : Wd A ι (upd H p o) (M.set k mo) := by
  have hp := List.mem_of_getElem? e
  refine ⟨w.nd, by rw [List.length_set]; exact w.len, fun x hx => (Le.put hp).al x (w.dom x hx), w.na, fun j a ob e1 e2 => ?_⟩
  by_cases hj : k = j
  · subst hj
    rw [e] at e1; cases e1
    rw [List.getElem?_set_self (by rw [← w.len]; exact (List.getElem?_eq_some_iff.mp e).1)] at e2
    cases e2
    exact new
  · rw [List.getElem?_set_ne hj] at e2
    have na : a ≠ p := fun z => by
      subst z
      have h1 := List.getElem?_eq_some_iff.mp e
      have h2 := List.getElem?_eq_some_iff.mp e1
      exact hj ((List.getElem_inj w.nd).mp (h1.2.trans h2.2.symm))
    exact (w.obj j a ob e1 e2).le' (.put hp) (upd_ne na) fun x ex => upd_ne fun z => by
      rw [z] at ex; exact w.not_own hp ex
/-- how names lie -/
def EnvR (A : Addr → Prop) (ι : List Addr) (H : Hp) : St → UEnv → Prop := Paired fun (s : Option V) (r : Option U) => ∀ u, r = some u → ∃ v, s = some v ∧ RepU A ι H v u
theorem EnvR.le (l : Le ι H ι' H') (r : EnvR A ι H σ ρ) : EnvR A ι' H' σ ρ := Paired.mapP r fun _ _ q u e => by
  obtain ⟨v, h1, h2⟩ := q u e
  exact ⟨v, h1, h2.le l⟩
theorem EnvR.get (r : EnvR A ι H σ ρ) {i : Nat} {u : U} (e : ρ[i]? = some (some u)) : ∃ v, σ[i]? = some (some v) ∧ RepU A ι H v u := by
  obtain ⟨s, h1, h2⟩ := Paired.getR r e
  obtain ⟨v, rfl, h3⟩ := h2 u rfl
  exact ⟨v, h1, h3⟩
theorem EnvR.put (r : EnvR A ι H σ ρ) (i : Nat) (q : RepU A ι H v u) : EnvR A ι H (σ.set i (some v)) (ρ.set i (some u)) := Paired.put (fun w e => by cases e; exact ⟨v, rfl, q⟩) i r
def maskU (bs : List Bool) (n : Nat) (ρ : UEnv) : UEnv := (bs.zip ρ).map (fun p => if p.1 then p.2 else none) ++ List.replicate n none
theorem EnvR.mask {bs : List Bool} {n : Nat} (r : EnvR A ι H σ ρ) : EnvR A ι H (maskS bs n σ) (maskU bs n ρ) := by
  refine Paired.app ?_ ?_
  · induction r generalizing bs with
    | nil => simp; exact .nil
    | cons q t ih =>
      cases bs with
      | nil => exact .nil
      | cons b bs =>
        refine .cons ?_ ih
        cases b
        · intro u e; simp at e
        · simpa using q
  · induction n with
    | zero => exact .nil
    | succ n ih => exact .cons (fun u e => by cases e) ih
end
end L2

namespace L2
open PySem PySem.Spec PyProof.Rows
/-! ### readings over trees, and their links: expressions -/
abbrev UK := U → MM → Prop
abbrev UE := UEnv → MM → UK → Prop
abbrev UT := UEnv → MM → (Bool → MM → Prop) → Prop
abbrev UA := UEnv → MM → (List U → MM → Prop) → Prop
def LE (te : TE) (ue : UE) : Prop := ∀ (A : Addr → Prop) (ι : List Addr) (σ : St) (H : Hp) (ρ : UEnv) (M : MM) (Qu : UK) (Q : VK), Wd A ι H M → EnvR A ι H σ ρ → ue ρ M Qu →
  (∀ u M' ι' v H', Le ι H ι' H' → Wd A ι' H' M' → RepU A ι' H' v u → Qu u M' → Q v H') → te σ H Q
def LT (tt : TT) (ut : UT) : Prop := ∀ (A : Addr → Prop) (ι : List Addr) (σ : St) (H : Hp) (ρ : UEnv) (M : MM) (Qu : Bool → MM → Prop) (Q : Bool → Hp → Prop), Wd A ι H M → EnvR A ι H σ ρ → ut ρ M Qu →
  (∀ b M' ι' H', Le ι H ι' H' → Wd A ι' H' M' → Qu b M' → Q b H') → tt σ H Q
def LA (n : Nat) (ta : TA) (ua : UA) : Prop := ∀ (A : Addr → Prop) (ι : List Addr) (σ : St) (H : Hp) (ρ : UEnv) (M : MM) (Qu : List U → MM → Prop) (Q : List V → Hp → Prop), Wd A ι H M → EnvR A ι H σ ρ → ua ρ M Qu →
  (∀ us M' ι' vs H', Le ι H ι' H' → Wd A ι' H' M' → us.length = n → RepUs A ι' H' vs us → Qu us M' → Q vs H') → ta σ H Q
section
variable {te ta tb tc : TE} {ue ua ub uc : UE} {tt tt' : TT} {ut ut' : UT} {tl : TA} {ul : UA} {n : Nat}
def uVar (i : Nat) : UE := fun ρ M Q => ∃ u, ρ[i]? = some (some u) ∧ Q u M
theorem le_var (i : Nat) : LE (tVar i) (uVar i) := fun A ι σ H ρ M Qu Q w e ⟨u, h, q⟩ k => by
  obtain ⟨v, h1, h2⟩ := e.get h
  exact ⟨v, h1, k u M ι v H (.refl _ _) w h2 q⟩
inductive Sc : V → T → Prop
  | non : Sc .non .non
  | bl (b : Bool) : Sc (.bl b) (.bl b)
  | int (i : Int) : Sc (.int i) (.int i)
  | str (x : Str) : Sc (.str x) (.str x)
theorem Sc.rep {A : Addr → Prop} {H : Hp} {v : V} {t : T} (h : Sc v t) : RepT A H v t := by cases h <;> constructor
def uC (t : T) : UE := fun _ M Q => Q (.p t) M
theorem le_c {v : V} {t : T} (h : Sc v t) : LE (tC v) (uC t) := fun A ι σ H ρ M Qu Q w e q k => k _ M ι v H (.refl _ _) w (.p h.rep) q
def uNil : UA := fun _ M Q => Q [] M
def uCons (ua : UE) (ul : UA) : UA := fun ρ M Q => ua ρ M fun x M1 => ul ρ M1 fun xs M2 => Q (x :: xs) M2
theorem la_nil : LA 0 tNil uNil := fun A ι σ H ρ M Qu Q w e q k => k [] M ι [] H (.refl _ _) w rfl .nil q
theorem la_cons (ha : LE ta ua) (hl : LA n tl ul) : LA (n + 1) (tCons ta tl) (uCons ua ul) := fun A ι σ H ρ M Qu Q w e q k =>
  ha A ι σ H ρ M _ _ w e q fun x M1 ι1 v H1 l1 w1 r1 q1 => hl A ι1 σ H1 ρ M1 _ _ w1 (e.le l1) q1 fun xs M2 ι2 vs H2 l2 w2 hn r2 q2 =>
    k (x :: xs) M2 ι2 (v :: vs) H2 (l1.trans l2) w2 (by rw [List.length_cons, hn]) (.cons (r1.le l2) r2) q2
/-! snapshots -/
def pureUs : List U → Option (List T)
  | [] => some []
  | .p t :: r => (pureUs r).map (t :: ·)
  | .m _ :: _ => none
@[simp] theorem pureUs_map : ∀ ts : List T, pureUs (ts.map U.p) = some ts
  | [] => rfl
  | t :: r => by simp [pureUs, pureUs_map r]
theorem pureUs_eq : ∀ {us : List U} {ts : List T}, pureUs us = some ts → us = ts.map U.p
  | [], _, h => by simp [pureUs] at h; subst h; rfl
  | .p t :: r, ts, h => by
    simp [pureUs] at h
    obtain ⟨a, h1, rfl⟩ := h
    rw [List.map_cons, ← pureUs_eq h1]
  | .m _ :: _, _, h => by simp [pureUs] at h
def sn (M : MM) : U → Option T
  | .p t => some t
  | .m k => match M[k]? with
    | some (.lst us) => (pureUs us).map T.lst
    | some (.tup us) => (pureUs us).map T.tup
    | _ => none
def sns (M : MM) : List U → Option (List T)
  | [] => some []
  | u :: r => match sn M u, sns M r with
    | some t, some ts => some (t :: ts)
    | _, _ => none
inductive RepV (A : Addr → Prop) (H : Hp) : V → T → Prop
  | of {v : V} {t : T} (r : RepT A H v t) : RepV A H v t
  | lst {p : Addr} {vs : List V} {ts : List T} (e : H p = some (.lst vs)) (r : RepTs A H vs ts) : RepV A H (.ref p) (.lst ts)
  | tup {p : Addr} {vs : List V} {ts : List T} (e : H p = some (.tup vs)) (r : RepTs A H vs ts) : RepV A H (.ref p) (.tup ts)
variable {A : Addr → Prop} {H H' : Hp} {ι : List Addr} {M : MM} {v : V} {u : U} {t : T}
theorem RepV.lst_inv {ts : List T} (r : RepV A H v (.lst ts)) : ∃ p vs, v = .ref p ∧ H p = some (.lst vs) ∧ RepTs A H vs ts := by
  cases r with
  | of r => obtain ⟨p, vs, h1, _, h2, h3⟩ := r.lst_inv; exact ⟨p, vs, h1, h2, h3⟩
  | lst e r => exact ⟨_, _, rfl, e, r⟩
theorem RepV.tup_inv {ts : List T} (r : RepV A H v (.tup ts)) : ∃ p vs, v = .ref p ∧ H p = some (.tup vs) ∧ RepTs A H vs ts := by
  cases r with
  | of r => obtain ⟨p, vs, h1, _, h2, h3⟩ := r.tup_inv; exact ⟨p, vs, h1, h2, h3⟩
  | tup e r => exact ⟨_, _, rfl, e, r⟩
theorem RepV.int_inv {i : Int} (r : RepV A H v (.int i)) : v = .int i := by cases r with | of r => cases r; rfl
theorem RepV.bl_inv {i : Bool} (r : RepV A H v (.bl i)) : v = .bl i := by cases r with | of r => cases r; rfl
theorem RepV.str_inv {i : Str} (r : RepV A H v (.str i)) : v = .str i := by cases r with | of r => cases r; rfl
theorem RepV.non_inv (r : RepV A H v .non) : v = .non := by cases r with | of r => cases r; rfl
theorem RepUs.pures {vs : List V} {ts : List T} (r : RepUs A ι H vs (ts.map U.p)) : RepTs (Av A ι) H vs ts := Paired.unmapR (fun a b q => by cases q with | p r => exact r) r
theorem RepTs.ups {vs : List V} {ts : List T} (r : RepTs (Av A ι) H vs ts) : RepUs A ι H vs (ts.map U.p) := Paired.mapR (fun a b q => .p q) r
theorem RepU.sn (w : Wd A ι H M) (r : RepU A ι H v u) (e : sn M u = some t) : RepV (Av A ι) H v t := by
  cases r with
  | p r => simp [L2.sn] at e; subst e; exact .of r
  | m q =>
    obtain ⟨o, h1, h2⟩ := w.al q
    simp only [L2.sn, h1] at e
    cases o with
    | lst us =>
      simp at e
      obtain ⟨ts, e1, rfl⟩ := e
      obtain ⟨vs, h3, h4⟩ := h2
      rw [pureUs_eq e1] at h4
      exact .lst h3 h4.pures
    | tup us =>
      simp at e
      obtain ⟨ts, e1, rfl⟩ := e
      obtain ⟨vs, h3, h4⟩ := h2
      rw [pureUs_eq e1] at h4
      exact .tup h3 h4.pures
    | ins => simp at e
    | dK => simp at e
theorem RepUs.sns (w : Wd A ι H M) : ∀ {vs : List V} {us : List U} {ts : List T}, RepUs A ι H vs us → sns M us = some ts → Paired (RepV (Av A ι) H) vs ts
  | _, _, ts, .nil, e => by simp [L2.sns] at e; subst e; exact .nil
  | _, _, ts, .cons r q, e => by
    simp only [L2.sns] at e
    split at e
    · rename_i h1 h2
      simp at e; subst e
      exact .cons (r.sn w h1) (RepUs.sns w q h2)
    · cases e
/-- an operation on two snapshots -/
def OpL (r : R2) (s : T → T → (T → Prop) → Prop) : Prop := ∀ (A : Addr → Prop) (ι : List Addr) (H : Hp) (M : MM) (x y : V) (a b : T) (Qs : T → Prop) (Q : VK), Wd A ι H M → RepV (Av A ι) H x a → RepV (Av A ι) H y b → s a b Qs →
  (∀ t ι' v H', Le ι H ι' H' → Wd A ι' H' M → RepT (Av A ι') H' v t → Qs t → Q v H') → r x y H Q
def uOp (s : T → T → (T → Prop) → Prop) (ua ub : UE) : UE := fun ρ M Q => ua ρ M fun x M1 => ub ρ M1 fun y M2 => ∃ a b, sn M2 x = some a ∧ sn M2 y = some b ∧ s a b fun t => Q (.p t) M2
theorem le_op {r : R2} {s : T → T → (T → Prop) → Prop} (h : OpL r s) (ha : LE ta ua) (hb : LE tb ub) : LE (tOp r ta tb) (uOp s ua ub) := fun A ι σ H ρ M Qu Q w e q k =>
  ha A ι σ H ρ M _ _ w e q fun x M1 ι1 v H1 l1 w1 r1 q1 => hb A ι1 σ H1 ρ M1 _ _ w1 (e.le l1) q1 fun y M2 ι2 v2 H2 l2 w2 r2 ⟨a, b, e1, e2, q2⟩ =>
    h A ι2 H2 M2 v v2 a b _ Q w2 ((r1.le l2).sn w2 e1) (r2.sn w2 e2) q2 fun t ι3 z H3 l3 w3 r3 q3 => k _ M2 ι3 z H3 ((l1.trans l2).trans l3) w3 (.p r3) q3
def sI (C : Int → Int → Prop) (g : Int → Int → T) : T → T → (T → Prop) → Prop := fun a b Q => ∃ i j, a = .int i ∧ b = .int j ∧ C i j ∧ Q (g i j)
def sI0 (g : Int → Int → T) : T → T → (T → Prop) → Prop := fun a b Q => ∃ i j, a = .int i ∧ b = .int j ∧ Q (g i j)
theorem opl_I {C : Int → Int → Prop} {gv : Int → Int → V} {g : Int → Int → T} (hg : ∀ i j, Sc (gv i j) (g i j)) : OpL (rI C gv) (sI C g) := fun A ι H M x y a b Qs Q w r1 r2 ⟨i, j, ea, eb, c, q⟩ k => by
  subst ea eb
  exact ⟨i, j, r1.int_inv, r2.int_inv, c, k _ ι _ H (.refl _ _) w (hg i j).rep q⟩
theorem opl_I0 {gv : Int → Int → V} {g : Int → Int → T} (hg : ∀ i j, Sc (gv i j) (g i j)) : OpL (rI0 gv) (sI0 g) := fun A ι H M x y a b Qs Q w r1 r2 ⟨i, j, ea, eb, q⟩ k => by
  subst ea eb
  exact ⟨i, j, r1.int_inv, r2.int_inv, k _ ι _ H (.refl _ _) w (hg i j).rep q⟩
def vt : T → Option V
  | .non => some .non
  | .bl b => some (.bl b)
  | .int i => some (.int i)
  | .str x => some (.str x)
  | _ => none
theorem vt_rep {x : V} (e : vt t = some x) : Sc x t := by
  cases t <;> simp [vt] at e <;> subst e <;> constructor
theorem RepV.sc {x y : V} (r : RepV A H v t) (e : vt t = some x) : v = x := by
  cases vt_rep e with
  | non => exact r.non_inv
  | bl => exact r.bl_inv
  | int => exact r.int_inv
  | str => exact r.str_inv
def sEq (neg : Bool) : T → T → (T → Prop) → Prop := fun a b Q => ∃ x y, vt a = some x ∧ vt b = some y ∧ scal x y = true ∧ Q (.bl (if neg then !decide (x = y) else decide (x = y)))
theorem opl_eq : OpL rEq (sEq false) := fun A ι H M x y a b Qs Q w r1 r2 ⟨x', y', e1, e2, sc, q⟩ k => by
  cases r1.sc (y := .non) e1; cases r2.sc (y := .non) e2
  exact ⟨sc, k _ ι _ H (.refl _ _) w (.bl _) q⟩
theorem opl_ne : OpL rNe (sEq true) := fun A ι H M x y a b Qs Q w r1 r2 ⟨x', y', e1, e2, sc, q⟩ k => by
  cases r1.sc (y := .non) e1; cases r2.sc (y := .non) e2
  exact ⟨sc, k _ ι _ H (.refl _ _) w (.bl _) q⟩
def sStr : T → T → (T → Prop) → Prop := fun a b Q => ∃ i j, a = .str i ∧ b = .str j ∧ i.length + j.length ≤ sizeLine ∧ Q (.str (i ++ j))
/-- a new tree -/
theorem fresh_lst (w : Wd A ι H M) {p : Addr} {vs : List V} {ts : List T} (h : H p = none) (r : RepTs (Av A ι) H vs ts) : RepT (Av A ι) (upd H p (.lst vs)) (.ref p) (.lst ts) :=
  .lstP (w.nA h) upd_same (Paired.mapP r fun _ _ q => q.le (.fresh h))
theorem fresh_tup (w : Wd A ι H M) {p : Addr} {vs : List V} {ts : List T} (h : H p = none) (r : RepTs (Av A ι) H vs ts) : RepT (Av A ι) (upd H p (.tup vs)) (.ref p) (.tup ts) :=
  .tupP (w.nA h) upd_same (Paired.mapP r fun _ _ q => q.le (.fresh h))
def sCat : T → T → (T → Prop) → Prop := fun a b Q => ∃ xs ys, a = .lst xs ∧ b = .lst ys ∧ xs.length + ys.length ≤ sizeLine ∧ Q (.lst (xs ++ ys))
theorem opl_cat : OpL rCat sCat := fun A ι H M x y a b Qs Q w r1 r2 ⟨xs, ys, ea, eb, hz, q⟩ k => by
  subst ea eb
  obtain ⟨p, vs, rfl, h1, q1⟩ := r1.lst_inv
  obtain ⟨p2, vs2, rfl, h2, q2⟩ := r2.lst_inv
  exact ⟨p, p2, vs, vs2, rfl, rfl, h1, h2, by rw [q1.len, q2.len]; exact hz, fun p hp => k _ ι _ _ (.fresh hp) (w.fresh hp) (fresh_lst w hp (q1.app q2)) q⟩
theorem paired_rep {α β : Type} {F : α → β → Prop} {l : List α} {m : List β} (h : Paired F l m) : ∀ n : Nat, Paired F (List.replicate n l).flatten (List.replicate n m).flatten
  | 0 => .nil
  | n + 1 => by rw [List.replicate_succ, List.replicate_succ, List.flatten_cons, List.flatten_cons]; exact h.app (paired_rep h n)
/-! is None -/
def isNon : U → Bool
  | .p .non => true
  | _ => false
theorem isNon_rep (r : RepU A ι H v u) : decide (v = .non) = isNon u := by
  cases r with
  | p r => cases r <;> simp [isNon]
  | m e => simp [isNon]
def uIsN (neg : Bool) (ua : UE) : UE := fun ρ M Q => ua ρ M fun x M1 => Q (.p (.bl (if neg then !isNon x else isNon x))) M1
theorem le_isN (ha : LE ta ua) : LE (tOp (fun x y H Q => y = .non ∧ Q (.bl (decide (x = .non))) H) ta (tC .non)) (uIsN false ua) := fun A ι σ H ρ M Qu Q w e q k =>
  ha A ι σ H ρ M _ _ w e q fun x M1 ι1 v H1 l1 w1 r1 q1 => ⟨rfl, by rw [isNon_rep r1]; exact k _ M1 ι1 _ H1 l1 w1 (.p (.bl _)) q1⟩
theorem le_notN (ha : LE ta ua) : LE (tOp (fun x y H Q => y = .non ∧ Q (.bl (!decide (x = .non))) H) ta (tC .non)) (uIsN true ua) := fun A ι σ H ρ M Qu Q w e q k =>
  ha A ι σ H ρ M _ _ w e q fun x M1 ι1 v H1 l1 w1 r1 q1 => ⟨rfl, by rw [isNon_rep r1]; exact k _ M1 ι1 _ H1 l1 w1 (.p (.bl _)) q1⟩
/-! unary -/
def uNeg (ua : UE) : UE := fun ρ M Q => ua ρ M fun x M1 => ∃ i, x = .p (.int i) ∧ Q (.p (.int (-i))) M1
theorem le_neg (ha : LE ta ua) : LE (tUn (rU fun i => .int (-i)) ta) (uNeg ua) := fun A ι σ H ρ M Qu Q w e q k =>
  ha A ι σ H ρ M _ _ w e q fun x M1 ι1 v H1 l1 w1 r1 ⟨i, ex, q1⟩ => by
    subst ex
    cases r1 with
    | p r => cases r; exact ⟨i, rfl, k _ M1 ι1 _ H1 l1 w1 (.p (.int _)) q1⟩
/-! truth -/
def uB (ua : UE) : UT := fun ρ M Q => ua ρ M fun x M1 => ∃ b, x = .p (.bl b) ∧ Q b M1
theorem lt_b (ha : LE ta ua) : LT (tB ta) (uB ua) := fun A ι σ H ρ M Qu Q w e q k =>
  ha A ι σ H ρ M _ _ w e q fun x M1 ι1 v H1 l1 w1 r1 ⟨b, ex, q1⟩ => by
    subst ex
    cases r1 with
    | p r => cases r; exact ⟨b, rfl, k b M1 ι1 H1 l1 w1 q1⟩
theorem lt_test (ha : LE ta ua) : LT (tTest ta) (uB ua) := lt_b ha
def truU (M : MM) : U → Option Bool
  | .p .non => some false
  | .p (.bl b) => some b
  | .p (.int i) => some (i != 0)
  | .p (.lst ts) => some (!ts.isEmpty)
  | .p (.tup ts) => some (!ts.isEmpty)
  | .m k => match M[k]? with
    | some (.lst us) => some (!us.isEmpty)
    | some (.tup us) => some (!us.isEmpty)
    | some (.dK us) => some (!us.isEmpty)
    | _ => none
  | _ => none
theorem tru_rep {K : PySem.W.Frag} {b : Bool} (w : Wd A ι H M) (r : RepU A ι H v u) (e : truU M u = some b) : TruV K v H b := by
  cases r with
  | p r =>
    cases r with
    | non => simp [truU] at e; subst e; rfl
    | bl => simp [truU] at e; subst e; rfl
    | int => simp [truU] at e; subst e; simp [TruV]
    | str => simp [truU] at e
    | tup na e1 l r => simp only [truU, Option.some.injEq] at e; subst e; exact .inr (.inl ⟨_, SqT.of e1, by rw [(Paired.of_get l r).empt]⟩)
    | lst na e1 l r => simp only [truU, Option.some.injEq] at e; subst e; exact .inl ⟨_, SqL.of e1, by rw [(Paired.of_get l r).empt]⟩
  | m q =>
    obtain ⟨o, h1, h2⟩ := w.al q
    simp only [truU, h1] at e
    cases o with
    | lst us => simp only [Option.some.injEq] at e; subst e; obtain ⟨vs, h3, h4⟩ := h2; exact .inl ⟨_, SqL.of h3, by rw [h4.empt]⟩
    | tup us => simp only [Option.some.injEq] at e; subst e; obtain ⟨vs, h3, h4⟩ := h2; exact .inr (.inl ⟨_, SqT.of h3, by rw [h4.empt]⟩)
    | ins => simp at e
    | dK us => simp only [Option.some.injEq] at e; subst e; obtain ⟨vs, h3, h4⟩ := h2; exact .inr (.inr ⟨_, h3, by rw [h4.empt]⟩)
def uTru (ua : UE) : UT := fun ρ M Q => ua ρ M fun x M1 => ∃ b, truU M1 x = some b ∧ Q b M1
theorem lt_tru {K : PySem.W.Frag} (ha : LE ta ua) : LT (tTru K ta) (uTru ua) := fun A ι σ H ρ M Qu Q w e q k =>
  ha A ι σ H ρ M _ _ w e q fun x M1 ι1 v H1 l1 w1 r1 ⟨b, eb, q1⟩ => ⟨b, tru_rep w1 r1 eb, k b M1 ι1 H1 l1 w1 q1⟩
def uAnd (t s : UT) : UT := fun ρ M Q => t ρ M fun c M1 => if c = true then s ρ M1 Q else Q false M1
def uOr (t s : UT) : UT := fun ρ M Q => t ρ M fun c M1 => if c = true then Q true M1 else s ρ M1 Q
def uNot (t : UT) : UT := fun ρ M Q => t ρ M fun c M1 => Q (!c) M1
theorem lt_and (ha : LT tt ut) (hb : LT tt' ut') : LT (tAnd tt tt') (uAnd ut ut') := fun A ι σ H ρ M Qu Q w e q k =>
  ha A ι σ H ρ M _ _ w e q fun c M1 ι1 H1 l1 w1 q1 => by
    cases c with
    | false => exact k false M1 ι1 H1 l1 w1 q1
    | true => exact hb A ι1 σ H1 ρ M1 _ _ w1 (e.le l1) q1 fun b M2 ι2 H2 l2 w2 q2 => k b M2 ι2 H2 (l1.trans l2) w2 q2
theorem lt_or (ha : LT tt ut) (hb : LT tt' ut') : LT (tOr tt tt') (uOr ut ut') := fun A ι σ H ρ M Qu Q w e q k =>
  ha A ι σ H ρ M _ _ w e q fun c M1 ι1 H1 l1 w1 q1 => by
    cases c with
    | true => exact k true M1 ι1 H1 l1 w1 q1
    | false => exact hb A ι1 σ H1 ρ M1 _ _ w1 (e.le l1) q1 fun b M2 ι2 H2 l2 w2 q2 => k b M2 ι2 H2 (l1.trans l2) w2 q2
theorem lt_not (ha : LT tt ut) : LT (tNot tt) (uNot ut) := fun A ι σ H ρ M Qu Q w e q k =>
  ha A ι σ H ρ M _ _ w e q fun c M1 ι1 H1 l1 w1 q1 => k _ M1 ι1 H1 l1 w1 q1
def uAndV (ua ub : UE) : UE := fun ρ M Q => ua ρ M fun x M1 => ∃ c, x = .p (.bl c) ∧ if c = true then ub ρ M1 Q else Q (.p (.bl false)) M1
def uOrV (ua ub : UE) : UE := fun ρ M Q => ua ρ M fun x M1 => ∃ c, x = .p (.bl c) ∧ if c = true then Q (.p (.bl true)) M1 else ub ρ M1 Q
def uNotV (ua : UE) : UE := fun ρ M Q => ua ρ M fun x M1 => ∃ c, x = .p (.bl c) ∧ Q (.p (.bl (!c))) M1
def uIf (t : UT) (ua ub : UE) : UE := fun ρ M Q => t ρ M fun c M1 => if c = true then ua ρ M1 Q else ub ρ M1 Q
theorem le_if (hc : LT tt ut) (ha : LE ta ua) (hb : LE tb ub) : LE (tIf tt ta tb) (uIf ut ua ub) := fun A ι σ H ρ M Qu Q w e q k =>
  hc A ι σ H ρ M _ _ w e q fun c M1 ι1 H1 l1 w1 q1 => by
    cases c with
    | true => exact ha A ι1 σ H1 ρ M1 _ _ w1 (e.le l1) q1 fun b M2 ι2 v2 H2 l2 w2 r2 q2 => k b M2 ι2 v2 H2 (l1.trans l2) w2 r2 q2
    | false => exact hb A ι1 σ H1 ρ M1 _ _ w1 (e.le l1) q1 fun b M2 ι2 v2 H2 l2 w2 r2 q2 => k b M2 ι2 v2 H2 (l1.trans l2) w2 r2 q2
/-- a op b op c -/
def uChain (s s' : T → T → (T → Prop) → Prop) (ua ub uc : UE) : UE := fun ρ M Q => ua ρ M fun x M1 => ub ρ M1 fun y M2 => ∃ a b, sn M2 x = some a ∧ sn M2 y = some b ∧ s a b fun z => ∃ k, z = .bl k ∧
  if k = true then uc ρ M2 fun c M3 => ∃ b' c', sn M3 y = some b' ∧ sn M3 c = some c' ∧ s' b' c' fun t => Q (.p t) M3 else Q (.p (.bl false)) M2
theorem le_chain {r r' : R2} {s s' : T → T → (T → Prop) → Prop} (h : OpL r s) (h' : OpL r' s') (ha : LE ta ua) (hb : LE tb ub) (hc : LE tc uc) : LE (tChain r r' ta tb tc) (uChain s s' ua ub uc) := by
  intro A ι σ H ρ M Qu Q w e q k
  refine ha A ι σ H ρ M _ _ w e q fun x M1 ι1 v H1 l1 w1 r1 q1 => ?_
  refine hb A ι1 σ H1 ρ M1 _ _ w1 (e.le l1) q1 fun y M2 ι2 v2 H2 l2 w2 r2 q2 => ?_
  obtain ⟨a, b, e1, e2, q2⟩ := q2
  refine h A ι2 H2 M2 v v2 a b _ _ w2 ((r1.le l2).sn w2 e1) (r2.sn w2 e2) q2 fun t ι3 z H3 l3 w3 r3 q3 => ?_
  obtain ⟨kk, et, q3⟩ := q3
  subst et
  cases r3
  refine ⟨kk, rfl, ?_⟩
  cases kk with
  | false => exact k _ M2 ι3 _ H3 ((l1.trans l2).trans l3) w3 (.p (.bl _)) q3
  | true =>
    refine hc A ι3 σ H3 ρ M2 _ _ w3 (e.le ((l1.trans l2).trans l3)) q3 fun c M4 ι4 v4 H4 l4 w4 r4 q4 => ?_
    obtain ⟨b', c', e3, e4, q4⟩ := q4
    exact h' A ι4 H4 M4 v2 v4 b' c' _ Q w4 ((r2.le (l3.trans l4)).sn w4 e3) (r4.sn w4 e4) q4 fun t ι5 z H5 l5 w5 r5 q5 => k _ M4 ι5 z H5 ((((l1.trans l2).trans l3).trans l4).trans l5) w5 (.p r5) q5
/-! displays -/
def uTup (ul : UA) : UE := fun ρ M Q => ul ρ M fun us M1 => ∃ ts, pureUs us = some ts ∧ Q (.p (.tup ts)) M1
def uLst (ul : UA) : UE := fun ρ M Q => ul ρ M fun us M1 => ∃ ts, pureUs us = some ts ∧ Q (.p (.lst ts)) M1
def uNew (ul : UA) : UE := fun ρ M Q => ul ρ M fun us M1 => Q (.m M1.length) (M1 ++ [.lst us])
def uNewT (ul : UA) : UE := fun ρ M Q => ul ρ M fun us M1 => Q (.m M1.length) (M1 ++ [.tup us])
theorem le_tup (ha : LA n tl ul) (hn : n ≤ 1000 := by decide) : LE (tTup tl) (uTup ul) := fun A ι σ H ρ M Qu Q w e q k =>
  ha A ι σ H ρ M _ _ w e q fun us M1 ι1 vs H1 l1 w1 hl r1 ⟨ts, et, q1⟩ => by
    have r2 := r1
    rw [pureUs_eq et] at r2
    exact ⟨by rw [r1.len, hl]; exact Nat.le_of_lt (small1000 hn), fun p hp => k _ M1 ι1 _ _ (l1.trans (.fresh hp)) (w1.fresh hp) (.p (fresh_tup w1 hp r2.pures)) q1⟩
theorem le_lst (ha : LA n tl ul) (hn : n ≤ 1000 := by decide) : LE (tLst tl) (uLst ul) := fun A ι σ H ρ M Qu Q w e q k =>
  ha A ι σ H ρ M _ _ w e q fun us M1 ι1 vs H1 l1 w1 hl r1 ⟨ts, et, q1⟩ => by
    have r2 := r1
    rw [pureUs_eq et] at r2
    exact ⟨by rw [r1.len, hl]; exact Nat.le_of_lt (small1000 hn), fun p hp => k _ M1 ι1 _ _ (l1.trans (.fresh hp)) (w1.fresh hp) (.p (fresh_lst w1 hp r2.pures)) q1⟩
theorem get_last {α : Type} {l : List α} {x : α} : (l ++ [x])[l.length]? = some x := by rw [List.getElem?_append_right (Nat.le_refl _), Nat.sub_self]; rfl
theorem new_lst (w : Wd A ι H M) {p : Addr} {vs : List V} {us : List U} (h : H p = none) (r : RepUs A ι H vs us) : Wd A (ι ++ [p]) (upd H p (.lst vs)) (M ++ [.lst us]) ∧ RepU A (ι ++ [p]) (upd H p (.lst vs)) (.ref p) (.m M.length) :=
  ⟨w.push h ⟨vs, upd_same, r.le (.push h)⟩, .m (by rw [← w.len]; exact get_last)⟩
theorem le_new (ha : LA n tl ul) (hn : n ≤ 1000 := by decide) : LE (tLst tl) (uNew ul) := fun A ι σ H ρ M Qu Q w e q k =>
  ha A ι σ H ρ M _ _ w e q fun us M1 ι1 vs H1 l1 w1 hl r1 q1 => ⟨by rw [r1.len, hl]; exact Nat.le_of_lt (small1000 hn), fun p hp => k _ _ _ _ _ (l1.trans (.push hp)) (new_lst w1 hp r1).1 (new_lst w1 hp r1).2 q1⟩
/-! items -/
def itemsL (M : MM) : U → Option (List U)
  | .p (.lst ts) => some (ts.map .p)
  | .m k => match M[k]? with
    | some (.lst us) => some us
    | _ => none
  | _ => none
def itemsT (M : MM) : U → Option (List U)
  | .p (.tup ts) => some (ts.map .p)
  | .m k => match M[k]? with
    | some (.tup us) => some us
    | _ => none
  | _ => none
theorem itemsL_rep {us : List U} (w : Wd A ι H M) (r : RepU A ι H v u) (e : itemsL M u = some us) : ∃ p vs, v = .ref p ∧ H p = some (.lst vs) ∧ RepUs A ι H vs us := by
  cases r with
  | p r =>
    cases r with
    | lst na e1 l r => simp [itemsL] at e; subst e; exact ⟨_, _, rfl, e1, RepTs.ups (Paired.of_get l r)⟩
    | _ => simp [itemsL] at e
  | m q =>
    obtain ⟨o, h1, h2⟩ := w.al q
    simp only [itemsL, h1] at e
    cases o with
    | lst us => simp at e; subst e; obtain ⟨vs, h3, h4⟩ := h2; exact ⟨_, _, rfl, h3, h4⟩
    | _ => simp at e
theorem itemsT_rep {us : List U} (w : Wd A ι H M) (r : RepU A ι H v u) (e : itemsT M u = some us) : ∃ p vs, v = .ref p ∧ H p = some (.tup vs) ∧ RepUs A ι H vs us := by
  cases r with
  | p r =>
    cases r with
    | tup na e1 l r => simp [itemsT] at e; subst e; exact ⟨_, _, rfl, e1, RepTs.ups (Paired.of_get l r)⟩
    | _ => simp [itemsT] at e
  | m q =>
    obtain ⟨o, h1, h2⟩ := w.al q
    simp only [itemsT, h1] at e
    cases o with
    | tup us => simp at e; subst e; obtain ⟨vs, h3, h4⟩ := h2; exact ⟨_, _, rfl, h3, h4⟩
    | _ => simp at e
theorem atI_rep {vs : List V} {us : List U} {i : Int} {z : U} (r : RepUs A ι H vs us) (e : atI us i = some z) : ∃ x, atI vs i = some x ∧ RepU A ι H x z := by
  unfold atI at e ⊢
  rw [r.len]
  cases q : ixN us.length i with
  | none => rw [q] at e; cases e
  | some j =>
    rw [q] at e
    exact Paired.getR r e
def uIx (it : MM → U → Option (List U)) (ua ub : UE) : UE := fun ρ M Q => ua ρ M fun x M1 => ub ρ M1 fun y M2 => ∃ us i z, it M2 x = some us ∧ y = .p (.int i) ∧ atI us i = some z ∧ Q z M2
theorem le_ixL {K : PySem.W.Frag} (ha : LE ta ua) (hb : LE tb ub) : LE (tOp (rIxL K) ta tb) (uIx itemsL ua ub) := fun A ι σ H ρ M Qu Q w e q k =>
  ha A ι σ H ρ M _ _ w e q fun x M1 ι1 v H1 l1 w1 r1 q1 => hb A ι1 σ H1 ρ M1 _ _ w1 (e.le l1) q1 fun y M2 ι2 v2 H2 l2 w2 r2 ⟨us, i, z, e1, e2, e3, q2⟩ => by
    subst e2
    obtain ⟨p, vs, rfl, h1, h2⟩ := itemsL_rep w2 (r1.le l2) e1
    obtain ⟨x', h3, h4⟩ := atI_rep h2 e3
    cases r2 with
    | p r => cases r; exact ⟨p, vs, i, x', rfl, rfl, SqL.of h1, h3, k z M2 ι2 x' H2 (l1.trans l2) w2 h4 q2⟩
theorem le_ixT {K : PySem.W.Frag} (ha : LE ta ua) (hb : LE tb ub) : LE (tOp (rIxT K) ta tb) (uIx itemsT ua ub) := fun A ι σ H ρ M Qu Q w e q k =>
  ha A ι σ H ρ M _ _ w e q fun x M1 ι1 v H1 l1 w1 r1 q1 => hb A ι1 σ H1 ρ M1 _ _ w1 (e.le l1) q1 fun y M2 ι2 v2 H2 l2 w2 r2 ⟨us, i, z, e1, e2, e3, q2⟩ => by
    subst e2
    obtain ⟨p, vs, rfl, h1, h2⟩ := itemsT_rep w2 (r1.le l2) e1
    obtain ⟨x', h3, h4⟩ := atI_rep h2 e3
    cases r2 with
    | p r => cases r; exact ⟨p, vs, i, x', rfl, rfl, SqT.of h1, h3, k z M2 ι2 x' H2 (l1.trans l2) w2 h4 q2⟩
/-! built-in calls on snapshots -/
def CbL (r : List V → Hp → VK → Prop) (s : List T → (T → Prop) → Prop) : Prop := ∀ (A : Addr → Prop) (ι : List Addr) (H : Hp) (M : MM) (vs : List V) (ts : List T) (Qs : T → Prop) (Q : VK), Wd A ι H M → Paired (RepV (Av A ι) H) vs ts → s ts Qs →
  (∀ t ι' v H', Le ι H ι' H' → Wd A ι' H' M → RepT (Av A ι') H' v t → Qs t → Q v H') → r vs H Q
def uCb (s : List T → (T → Prop) → Prop) (ul : UA) : UE := fun ρ M Q => ul ρ M fun us M1 => ∃ ts, sns M1 us = some ts ∧ s ts fun t => Q (.p t) M1
theorem le_cb {r : List V → Hp → VK → Prop} {s : List T → (T → Prop) → Prop} (h : CbL r s) (ha : LA n tl ul) : LE (tCB r tl) (uCb s ul) := fun A ι σ H ρ M Qu Q w e q k =>
  ha A ι σ H ρ M _ _ w e q fun us M1 ι1 vs H1 l1 w1 hl r1 ⟨ts, e1, q1⟩ => h A ι1 H1 M1 vs ts _ Q w1 (r1.sns w1 e1) q1 fun t ι2 z H2 l2 w2 r2 q2 => k _ M1 ι2 z H2 (l1.trans l2) w2 (.p r2) q2
theorem pv1 {vs : List V} {t : T} (r : Paired (RepV A H) vs [t]) : ∃ v, vs = [v] ∧ RepV A H v t := by
  cases r with
  | cons r q => cases q; exact ⟨_, rfl, r⟩
theorem pv2 {vs : List V} {t s : T} (r : Paired (RepV A H) vs [t, s]) : ∃ v z, vs = [v, z] ∧ RepV A H v t ∧ RepV A H z s := by
  cases r with
  | cons r q =>
    obtain ⟨v, rfl, r2⟩ := pv1 q
    exact ⟨_, _, rfl, r, r2⟩
def sAbs : List T → (T → Prop) → Prop := fun ts Q => ∃ i, ts = [.int i] ∧ Q (.int (if i < 0 then -i else i))
def sMin : List T → (T → Prop) → Prop := fun ts Q => ∃ i j, ts = [.int i, .int j] ∧ Q (.int (if j < i then j else i))
theorem cbl_min : CbL (fun xs H Q => ∃ i j, xs = [.int i, .int j] ∧ Q (.int (if j < i then j else i)) H) sMin := fun A ι H M vs ts Qs Q w r ⟨i, j, e, q⟩ k => by
  subst e
  obtain ⟨v, z, ev, r1, r2⟩ := pv2 r
  subst ev
  cases r1.int_inv; cases r2.int_inv
  exact ⟨i, j, rfl, k _ ι _ H (.refl _ _) w (.int _) q⟩
def sMax : List T → (T → Prop) → Prop := fun ts Q => ∃ i j, ts = [.int i, .int j] ∧ Q (.int (if j > i then j else i))
def sInt : List T → (T → Prop) → Prop := fun ts Q => (∃ i, ts = [.int i] ∧ Q (.int i)) ∨ ∃ k, ts = [.bl k] ∧ Q (.int (if k then 1 else 0))
theorem cbl_int : CbL (fun xs H Q => (∃ i, xs = [.int i] ∧ Q (.int i) H) ∨ ∃ k, xs = [.bl k] ∧ Q (.int (if k then 1 else 0)) H) sInt := fun A ι H M vs ts Qs Q w r h k => by
  rcases h with ⟨i, e, q⟩ | ⟨b, e, q⟩
  · subst e
    obtain ⟨v, ev, r1⟩ := pv1 r
    subst ev
    cases r1.int_inv
    exact .inl ⟨i, rfl, k _ ι _ H (.refl _ _) w (.int _) q⟩
  · subst e
    obtain ⟨v, ev, r1⟩ := pv1 r
    subst ev
    cases r1.bl_inv
    exact .inr ⟨b, rfl, k _ ι _ H (.refl _ _) w (.int _) q⟩
def bls : List T → Option (List Bool)
  | [] => some []
  | .bl b :: r => (bls r).map (b :: ·)
  | _ => none
@[simp] theorem bls_map : ∀ bs : List Bool, bls (bs.map T.bl) = some bs
  | [] => rfl
  | b :: r => by simp [bls, bls_map r]
/-- len -/
def uLen (it : MM → U → Option (List U)) (ul : UA) : UE := fun ρ M Q => ul ρ M fun us M1 => ∃ x ys, us = [x] ∧ it M1 x = some ys ∧ Q (.p (.int ys.length)) M1
theorem le_len (ha : LA n tl ul) : LE (tCB rLenL tl) (uLen itemsL ul) := fun A ι σ H ρ M Qu Q w e q k =>
  ha A ι σ H ρ M _ _ w e q fun us M1 ι1 vs H1 l1 w1 hl r1 ⟨x, ys, e1, e2, q1⟩ => by
    subst e1
    cases r1 with
    | cons r q =>
      cases q
      obtain ⟨p, zs, rfl, h1, h2⟩ := itemsL_rep w1 r e2
      exact ⟨p, zs, rfl, h1, by rw [h2.len]; exact k _ M1 ι1 _ H1 l1 w1 (.p (.int _)) q1⟩
/-- a bit_length -/
def uBits (ua : UE) : UE := fun ρ M Q => ua ρ M fun x M1 => ∃ i, x = .p (.int i) ∧ Q (.p (.int (Builtin.Int.intBits i))) M1
/-- a slice -/
def cutT (xs : List T) (lo hi : Option Int) : List T := (xs.drop (HT.sIx xs.length 0 lo)).take (HT.sIx xs.length xs.length hi - HT.sIx xs.length 0 lo)
theorem cut_rep {vs : List V} {ts : List T} {lo hi : Option Int} (r : RepTs A H vs ts) : RepTs A H (cutV vs lo hi) (cutT ts lo hi) := by
  unfold cutV cutT
  rw [r.len]
  exact (r.dr _).tk _
abbrev UO := UEnv → MM → (Option Int → MM → Prop) → Prop
def LO (to : TO) (uo : UO) : Prop := ∀ (A : Addr → Prop) (ι : List Addr) (σ : St) (H : Hp) (ρ : UEnv) (M : MM) (Qu : Option Int → MM → Prop) (Q : Option Int → Hp → Prop), Wd A ι H M → EnvR A ι H σ ρ → uo ρ M Qu →
  (∀ b M' ι' H', Le ι H ι' H' → Wd A ι' H' M' → Qu b M' → Q b H') → to σ H Q
def uNoPart : UO := fun _ M Q => Q none M
def uPart (ua : UE) : UO := fun ρ M Q => ua ρ M fun x M1 => ∃ i, x = .p (.int i) ∧ Q (some i) M1
theorem lo_none : LO tNoPart uNoPart := fun A ι σ H ρ M Qu Q w e q k => k _ M ι H (.refl _ _) w q
theorem lo_some (ha : LE ta ua) : LO (tPart ta) (uPart ua) := fun A ι σ H ρ M Qu Q w e q k =>
  ha A ι σ H ρ M _ _ w e q fun x M1 ι1 v H1 l1 w1 r1 ⟨i, ex, q1⟩ => by
    subst ex
    cases r1 with
    | p r => cases r; exact ⟨i, rfl, k _ M1 ι1 H1 l1 w1 q1⟩
def uSl (ua : UE) (ul uh : UO) : UE := fun ρ M Q => ua ρ M fun x M1 => ul ρ M1 fun l M2 => uh ρ M2 fun h M3 => ∃ ts, sn M3 x = some (.lst ts) ∧ Q (.p (.lst (cutT ts l h))) M3
theorem le_sl {K : PySem.W.Frag} {t1 t2 : TO} {u1 u2 : UO} (ha : LE ta ua) (h1 : LO t1 u1) (h2 : LO t2 u2) : LE (tSl (rSlL K) ta t1 t2) (uSl ua u1 u2) := fun A ι σ H ρ M Qu Q w e q k =>
  ha A ι σ H ρ M _ _ w e q fun x M1 ι1 v H1 l1 w1 r1 q1 => h1 A ι1 σ H1 ρ M1 _ _ w1 (e.le l1) q1 fun lo M2 ι2 H2 l2 w2 q2 => h2 A ι2 σ H2 ρ M2 _ _ w2 (e.le (l1.trans l2)) q2 fun hi M3 ι3 H3 l3 w3 ⟨ts, es, q3⟩ => by
    obtain ⟨p, vs, rfl, h4, h5⟩ := ((r1.le (l2.trans l3)).sn w3 es).lst_inv
    exact ⟨p, vs, rfl, SqL.of h4, fun r hr => k _ M3 ι3 _ _ (((l1.trans l2).trans l3).trans (.fresh hr)) (w3.fresh hr) (.p (fresh_lst w3 hr (cut_rep h5))) q3⟩
end
end L2

namespace L2
open PySem PySem.Spec PyProof.Rows
/-! ### iterators, targets, comprehensions -/
section
variable {te ta tb tc : TE} {ue ua ub uc : UE} {tt tt' : TT} {ut ut' : UT} {tl : TA} {ul : UA} {n : Nat} {A A' A2 : Addr → Prop} {H H' H1 H2 : Hp} {ι ι' ι1 ι2 : List Addr} {M M' : MM} {v : V} {u : U} {t : T} {σ : St} {ρ : UEnv} {K : PySem.W.Frag}
structure Lea (A : Addr → Prop) (ι : List Addr) (H : Hp) (A' : Addr → Prop) (ι' : List Addr) (H' : Hp) : Prop where
  ext : ∃ n, ι' = ι ++ n
  av : ∀ x o, ¬ Av A ι x → H x = some o → H' x = some o ∧ ¬ Av A' ι' x
theorem Le.lea (l : Le ι H ι' H') : Lea A ι H A ι' H' := ⟨let ⟨n, e, _⟩ := l.ext; ⟨n, e⟩, fun _ _ h e => l.av h e⟩
theorem Lea.trans (a : Lea A ι H A' ι' H') (b : Lea A' ι' H' A2 ι2 H2) : Lea A ι H A2 ι2 H2 := by
  obtain ⟨n, rfl⟩ := a.ext
  obtain ⟨m, rfl⟩ := b.ext
  exact ⟨⟨n ++ m, by rw [List.append_assoc]⟩, fun x o h e => b.av x o (a.av x o h e).2 (a.av x o h e).1⟩
theorem RepU.lea (l : Lea A ι H A' ι' H') (r : RepU A ι H v u) : RepU A' ι' H' v u := by
  cases r with
  | p r => exact .p (r.mono l.av)
  | m e =>
    obtain ⟨n, rfl⟩ := l.ext
    exact .m (by rw [List.getElem?_append_left (List.getElem?_eq_some_iff.mp e).1]; exact e)
theorem EnvR.lea (l : Lea A ι H A' ι' H') (r : EnvR A ι H σ ρ) : EnvR A' ι' H' σ ρ := Paired.mapP r fun _ _ q u e => by
  obtain ⟨v, h1, h2⟩ := q u e
  exact ⟨v, h1, h2.lea l⟩
structure UIt where
  n : Nat
  ok : MM → Prop
  item : Nat → U → Prop
def ItR (A : Addr → Prop) (ι1 : List Addr) (H1 : Hp) (J : It) (it : UIt) : Prop := ∀ (A' : Addr → Prop) (ι : List Addr) (H : Hp) (M : MM) (i : Nat), Lea A ι1 H1 A' ι H → Wd A' ι H M → it.ok M →
  (i < it.n → J.go i H ∧ ∀ x H', J.yld i H x H' → ∃ u, it.item i u ∧ Le ι H ι H' ∧ Wd A' ι H' M ∧ RepU A' ι H' x u) ∧ (i = it.n → J.stop i H)
abbrev UI := UEnv → MM → (UIt → MM → Prop) → Prop
def LI (wi : TI) (ui : UI) : Prop := ∀ (A : Addr → Prop) (ι : List Addr) (σ : St) (H : Hp) (ρ : UEnv) (M : MM) (Qu : UIt → MM → Prop) (R : It → Hp → Prop), Wd A ι H M → EnvR A ι H σ ρ → ui ρ M Qu →
  (∀ it M' ι' J H', Le ι H ι' H' → Wd A ι' H' M' → ItR A ι' H' J it → Qu it M' → R J H') → wi σ H R
def uIter (ua : UE) : UI := fun ρ M Q => ua ρ M fun x M1 => ∃ us, itemsL M1 x = some us ∧ Q ⟨us.length, fun M => itemsL M x = some us, fun i z => us[i]? = some z⟩ M1
theorem li_list (ha : LE ta ua) : LI (iList K ta) (uIter ua) := fun A ι σ H ρ M Qu R w e q k =>
  ha A ι σ H ρ M _ _ w e q fun x M1 ι1 v H1 l1 w1 r1 ⟨us, eu, q1⟩ => by
    obtain ⟨p, vs, rfl, h1, h2⟩ := itemsL_rep w1 r1 eu
    refine ⟨p, rfl, ⟨vs, SqL.of h1⟩, k _ M1 ι1 _ H1 l1 w1 ?_ q1⟩
    intro A' ι2 H2 M2 i l w2 ok
    obtain ⟨p', vs2, e2, h3, h4⟩ := itemsL_rep w2 (r1.lea l) ok
    cases e2
    have hl := h4.len
    refine ⟨fun hi => ?_, fun hi => ⟨vs2, SqL.of h3, by rw [hl]; exact Nat.le_of_eq hi.symm⟩⟩
    have hx : vs2[i]? = some (vs2[i]'(by rw [hl]; exact hi)) := List.getElem?_eq_getElem _
    refine ⟨⟨vs2, _, SqL.of h3, hx⟩, fun x H' y => ?_⟩
    obtain ⟨rfl, y⟩ := y
    have hx2 := y vs2 (SqL.of h3)
    obtain ⟨z, hz, rz⟩ := Paired.getL h4 hx2
    exact ⟨z, hz, .refl _ _, w2, rz⟩
def uRev (ul : UA) : UI := fun ρ M Q => ul ρ M fun xs M1 => ∃ x us, xs = [x] ∧ itemsL M1 x = some us ∧ Q ⟨us.length, fun M => itemsL M x = some us, fun i z => us[us.length - 1 - i]? = some z⟩ M1
def uRng1 (ul : UA) : UI := fun ρ M Q => ul ρ M fun xs M1 => ∃ j : Int, xs = [.p (.int j)] ∧ -(2 ^ 62) ≤ j ∧ j < 2 ^ 62 ∧ Q ⟨j.toNat, fun _ => True, fun i z => z = .p (.int i)⟩ M1
theorem itr_ok {lo : Int} {n : Nat} : ItR A ι H (Itr lo n) ⟨n, fun _ => True, fun i z => z = .p (.int (lo + i))⟩ := fun A' ι2 H2 M2 i l w2 _ =>
  ⟨fun hi => ⟨hi, fun x H' y => by
    obtain ⟨rfl, rfl⟩ := y
    exact ⟨_, rfl, .refl _ _, w2, .p (.int _)⟩⟩, fun hi => Nat.le_of_eq hi.symm⟩
theorem li_rng1 (ha : LA n tl ul) : LI (iRng1 tl) (uRng1 ul) := fun A ι σ H ρ M Qu R w e q k =>
  ha A ι σ H ρ M _ _ w e q fun xs M1 ι1 vs1 H1 l1 w1 hn r0 ⟨j, ex, j0, j1, q1⟩ => by
    subst ex
    cases r0 with
    | cons r1 r0 =>
    cases r0
    cases r1 with
    | p r =>
    cases r
    have := itr_ok (A := A) (ι := ι1) (H := H1) (lo := 0) (n := j.toNat)
    simp only [Int.zero_add] at this
    exact ⟨j, rfl, j0, j1, k _ M1 ι1 _ H1 l1 w1 this q1⟩
/-! targets -/
abbrev UG := U → UEnv → MM → (UEnv → MM → Prop) → Prop
def LG (g : TG) (ug : UG) : Prop := ∀ (A : Addr → Prop) (ι : List Addr) (σ : St) (H : Hp) (ρ : UEnv) (M : MM) (v : V) (u : U) (Qu : UEnv → MM → Prop) (Q : St → Hp → Prop), Wd A ι H M → EnvR A ι H σ ρ → RepU A ι H v u → ug u ρ M Qu →
  (∀ ρ' M' ι' σ' H', Le ι H ι' H' → Wd A ι' H' M' → EnvR A ι' H' σ' ρ' → Qu ρ' M' → Q σ' H') → g v σ H Q
def uName (i : Nat) : UG := fun u ρ M Q => Q (ρ.set i (some u)) M
def uName2 (i j : Nat) : UG := fun u ρ M Q => ∃ a b, itemsT M u = some [a, b] ∧ Q ((ρ.set i (some a)).set j (some b)) M
def uName3 (i j k : Nat) : UG := fun u ρ M Q => ∃ a b c, itemsT M u = some [a, b, c] ∧ Q (((ρ.set i (some a)).set j (some b)).set k (some c)) M
theorem lg_name (i : Nat) : LG (gName i) (uName i) := fun A ι σ H ρ M v u Qu Q w e r q k => k _ M ι _ H (.refl _ _) w (e.put i r) q
theorem rep2 {vs : List V} {a b : U} (r : RepUs A ι H vs [a, b]) : ∃ x y, vs = [x, y] ∧ RepU A ι H x a ∧ RepU A ι H y b := by
  cases r with
  | cons r q => cases q with | cons r2 q => cases q; exact ⟨_, _, rfl, r, r2⟩
theorem rep3 {vs : List V} {a b c : U} (r : RepUs A ι H vs [a, b, c]) : ∃ x y z, vs = [x, y, z] ∧ RepU A ι H x a ∧ RepU A ι H y b ∧ RepU A ι H z c := by
  cases r with
  | cons r q =>
    obtain ⟨y, z, rfl, r2, r3⟩ := rep2 q
    exact ⟨_, _, _, rfl, r, r2, r3⟩
theorem lg_name2 (i j : Nat) : LG (gTup K 2 (gCons (gName i) (gCons (gName j) gNil))) (uName2 i j) := fun A ι σ H ρ M v u Qu Q w e r ⟨a, b, ei, q⟩ k => by
  obtain ⟨p, vs, rfl, h1, h2⟩ := itemsT_rep w r ei
  obtain ⟨x, y, rfl, r1, r2⟩ := rep2 h2
  exact gTup2_at h1 (k _ M ι _ H (.refl _ _) w ((e.put i r1).put j r2) q)
theorem lg_name3 (i j l : Nat) : LG (gTup K 3 (gCons (gName i) (gCons (gName j) (gCons (gName l) gNil)))) (uName3 i j l) := fun A ι σ H ρ M v u Qu Q w e r ⟨a, b, c, ei, q⟩ k => by
  obtain ⟨p, vs, rfl, h1, h2⟩ := itemsT_rep w r ei
  obtain ⟨x, y, z, rfl, r1, r2, r3⟩ := rep3 h2
  exact gTup3_at h1 (k _ M ι _ H (.refl _ _) w (((e.put i r1).put j r2).put l r3) q)
/-! targets of a comprehension -/
def tgFree (bs : List Bool) (n i : Nat) : Bool := match bs[i]? with
  | some b => !b
  | none => decide (i < bs.length + n)
theorem mask_free {bs : List Bool} {n i : Nat} {σ : St} (hl : σ.length = bs.length) (h : tgFree bs n i = true) : (maskS bs n σ)[i]? = some none := by
  unfold tgFree at h
  unfold maskS
  have hz : ((bs.zip σ).map (fun p => if p.1 then p.2 else none)).length = bs.length := by simp [hl]
  cases e : bs[i]? with
  | some b =>
    rw [e] at h
    have hi := (List.getElem?_eq_some_iff.mp e).1
    rw [List.getElem?_append_left (by rw [hz]; exact hi), List.getElem?_map]
    have hb : b = false := by simpa using h
    have e2 : (bs.zip σ)[i]? = some (b, σ[i]'(by omega)) := by
      rw [List.getElem?_eq_getElem (by simp [hl]; exact hi)]
      simp
      exact (List.getElem?_eq_some_iff.mp e).2
    rw [e2, hb]
    rfl
  | none =>
    rw [e] at h
    have hi := List.getElem?_eq_none_iff.mp e
    simp at h
    rw [List.getElem?_append_right (by rw [hz]; exact hi), hz, List.getElem?_replicate]
    rw [if_pos (by omega)]
def LGx (bs : List Bool) (n : Nat) (g : TG) (ug : UG) : Prop := ∀ (A : Addr → Prop) (ι : List Addr) (σ : St) (H : Hp) (ρ : UEnv) (M : MM) (v : V) (u : U) (Qu : UEnv → MM → Prop) (Q : St → Hp → Prop), σ.length = bs.length → Wd A ι H M → EnvR A ι H (maskS bs n σ) ρ → RepU A ι H v u → ug u ρ M Qu →
  (∀ ρ' σ', EnvR A ι H σ' ρ' → ExtS (maskS bs n σ) σ' → σ'.length = (maskS bs n σ).length → Qu ρ' M → Q σ' H) → g v (maskS bs n σ) H Q
theorem lgx_name {bs : List Bool} (i : Nat) (h : tgFree bs n i = true := by rfl) : LGx bs n (gName i) (uName i) := fun A ι σ H ρ M v u Qu Q hl w e r q k =>
  k _ _ (e.put i r) ((ExtS.refl _).put (mask_free hl h)) (by simp) q
theorem lgx_name3 {bs : List Bool} (i j l : Nat) (h : tgFree bs n i = true := by rfl) (h2 : tgFree bs n j = true := by rfl) (h3 : tgFree bs n l = true := by rfl) : LGx bs n (gTup K 3 (gCons (gName i) (gCons (gName j) (gCons (gName l) gNil)))) (uName3 i j l) := fun A ι σ H ρ M v u Qu Q hl w e r ⟨a, b, c, ei, q⟩ k => by
  obtain ⟨p, vs, rfl, h1, hh⟩ := itemsT_rep w r ei
  obtain ⟨x, y, z, rfl, r1, r2, r3⟩ := rep3 hh
  exact gTup3_at h1 (k _ _ (((e.put i r1).put j r2).put l r3) ((((ExtS.refl _).put (mask_free hl h)).put (mask_free hl h2)).put (mask_free hl h3)) (by simp) q)
/-! comprehensions -/
theorem lt_yes : LT tYes (fun _ M Q => Q true M) := fun A ι σ H ρ M Qu Q w e q k => k true M ι H (.refl _ _) w q
abbrev uYes : UT := fun _ M Q => Q true M
def UComp (it : UIt) (ug : UG) (ut : UT) (ue : UE) (ρ0 : UEnv) (M1 : MM) (Q : UK) : Prop := it.n ≤ sizeLine ∧ ∃ Iv : Nat → List T → MM → Prop, Iv 0 [] M1 ∧
  (∀ i acc M2, i < it.n → acc.length ≤ i → Iv i acc M2 → it.ok M2 ∧ ∀ u, it.item i u → ug u ρ0 M2 fun ρ4 M4 => ut ρ4 M4 fun b M5 => if b = true then ue ρ4 M5 fun z M6 => ∃ t, z = .p t ∧ Iv (i + 1) (acc ++ [t]) M6 else Iv (i + 1) acc M5) ∧
  (∀ acc M2, Iv it.n acc M2 → it.ok M2 ∧ Q (.p (.lst acc)) M2)
def uComp (ui : UI) (bs : List Bool) (n : Nat) (ug : UG) (ut : UT) (ue : UE) : UE := fun ρ M Q => ui ρ M fun it M1 => ρ.length = bs.length ∧ UComp it ug ut ue (maskU bs n ρ) M1 Q
theorem Wd.addA (w : Wd A ι H M) {p : Addr} {o : HO} (h : H p = none) : Wd (fun x => A x ∨ x = p) ι (upd H p o) M := by
  have w2 := w.fresh (o := o) h
  have hm : ∀ x o', ¬ Av A ι x → (upd H p o) x = some o' → H x ≠ none → (upd H p o) x = some o' ∧ ¬ Av (fun x => A x ∨ x = p) ι x := fun x o' hx e hs => ⟨e, fun z => by
    rcases z with (z | z) | z
    · exact hx (.inl z)
    · subst z; exact hs h
    · exact hx (.inr z)⟩
  have hl : Lea A ι H (fun x => A x ∨ x = p) ι (upd H p o) := ⟨⟨[], by simp⟩, fun x o' hx e => hm x o' hx (upd_old h e) (by rw [e]; simp)⟩
  refine ⟨w.nd, w.len, fun x hx => ?_, fun x hx z => ?_, fun k a ob e1 e2 => ?_⟩
  · rcases hx with hx | hx
    · exact w2.dom x hx
    · rw [hx, upd_same]; simp
  · rcases z with z | z
    · exact w.na x hx z
    · exact w.nin h (by rw [← z]; exact hx)
  · have r := w.obj k a ob e1 e2
    have ea : upd H p o a = H a := upd_ne fun z => by
      obtain ⟨q, hq⟩ := r.some
      rw [z, h] at hq; cases hq
    cases ob with
    | lst => obtain ⟨vs, e, r⟩ := r; exact ⟨vs, by rw [ea]; exact e, Paired.mapP r fun _ _ q => q.lea hl⟩
    | tup => obtain ⟨vs, e, r⟩ := r; exact ⟨vs, by rw [ea]; exact e, Paired.mapP r fun _ _ q => q.lea hl⟩
    | ins =>
      obtain ⟨dx, gs, e, ed, nd, r⟩ := r
      exact ⟨dx, gs, by rw [ea]; exact e, upd_old h ed, nd, Paired.mapP r fun _ _ q => ⟨q.1, q.2.lea hl⟩⟩
    | dK => obtain ⟨gs, e, r⟩ := r; exact ⟨gs, by rw [ea]; exact e, Paired.mapP r fun _ _ q => ⟨q.1, q.2.lea hl⟩⟩
theorem Wd.lessA (w : Wd A' ι H M) (h : ∀ x, A x → A' x) : Wd A ι H M := by
  have hl : Lea A' ι H A ι H := ⟨⟨[], by simp⟩, fun x o hx e => ⟨e, fun z => hx (z.elim (fun z => .inl (h x z)) .inr)⟩⟩
  refine ⟨w.nd, w.len, fun x hx => w.dom x (h x hx), fun x hx z => w.na x hx (h x z), fun k a ob e1 e2 => ?_⟩
  have r := w.obj k a ob e1 e2
  cases ob with
  | lst => obtain ⟨vs, e, r⟩ := r; exact ⟨vs, e, Paired.mapP r fun _ _ q => q.lea hl⟩
  | tup => obtain ⟨vs, e, r⟩ := r; exact ⟨vs, e, Paired.mapP r fun _ _ q => q.lea hl⟩
  | ins => obtain ⟨dx, gs, e, ed, nd, r⟩ := r; exact ⟨dx, gs, e, ed, nd, Paired.mapP r fun _ _ q => ⟨q.1, q.2.lea hl⟩⟩
  | dK => obtain ⟨gs, e, r⟩ := r; exact ⟨gs, e, Paired.mapP r fun _ _ q => ⟨q.1, q.2.lea hl⟩⟩
theorem Wd.updA (w : Wd A ι H M) {p : Addr} {o : HO} {ys : List V} (ha : A p) (hp : H p = some (.lst ys)) : Lea A ι H A ι (upd H p o) ∧ Wd A ι (upd H p o) M := by
  have hl : Lea A ι H A ι (upd H p o) := ⟨⟨[], by simp⟩, fun x o' hx e => ⟨by rw [upd_ne fun z => hx (.inl (by rw [z]; exact ha))]; exact e, hx⟩⟩
  refine ⟨hl, w.nd, w.len, fun x hx => ?_, w.na, fun k a ob e1 e2 => ?_⟩
  · by_cases z : x = p
    · rw [z, upd_same]; simp
    · rw [upd_ne z]; exact w.dom x hx
  · have r := w.obj k a ob e1 e2
    have ea : upd H p o a = H a := upd_ne fun z => w.na a (List.mem_of_getElem? e1) (by rw [z]; exact ha)
    cases ob with
    | lst => obtain ⟨vs, e, r⟩ := r; exact ⟨vs, by rw [ea]; exact e, Paired.mapP r fun _ _ q => q.lea hl⟩
    | tup => obtain ⟨vs, e, r⟩ := r; exact ⟨vs, by rw [ea]; exact e, Paired.mapP r fun _ _ q => q.lea hl⟩
    | ins =>
      obtain ⟨dx, gs, e, ed, nd, r⟩ := r
      exact ⟨dx, gs, by rw [ea]; exact e, by rw [upd_ne fun z => by rw [z, hp] at ed; cases ed]; exact ed, nd, Paired.mapP r fun _ _ q => ⟨q.1, q.2.lea hl⟩⟩
    | dK => obtain ⟨gs, e, r⟩ := r; exact ⟨gs, by rw [ea]; exact e, Paired.mapP r fun _ _ q => ⟨q.1, q.2.lea hl⟩⟩
theorem Le.updF {p : Addr} {o : HO} (l : Le ι H ι' H') (h : H p = none) : Le ι H ι' (upd H' p o) := ⟨l.ext, fun x o' e n => by rw [upd_ne (ne_of_none e h)]; exact l.fr x o' e n, fun x e => by
  by_cases z : x = p
  · rw [z, upd_same]; simp
  · rw [upd_ne z]; exact l.al x e⟩
theorem le_comp {wi : TI} {ui : UI} {bs : List Bool} {g : TG} {ug : UG} (hi : LI wi ui) (hg : LGx bs n g ug) (ht : LT tt ut) (he : LE te ue) : LE (tComp wi bs n g tt te) (uComp ui bs n ug ut ue) := by
  intro A ι σ H ρ M Qu Q w e q k
  refine hi A ι σ H ρ M _ _ w e q fun it M1 ι1 J H1 l1 w1 hJ q1 acc hacc => ?_
  obtain ⟨hlen, hsz, Iv, I0, It, Id⟩ := q1
  have hσ : σ.length = bs.length := by rw [← hlen]; exact e.len
  have e1 := e.le l1
  have na : ¬ Av A ι1 acc := w1.nA hacc
  have key : ∀ ι2 H2, Le ι1 H1 ι2 H2 → (∀ x ∈ ι2, ¬ (A x ∨ x = acc)) → Lea A ι1 H1 (fun x => A x ∨ x = acc) ι2 H2 := fun ι2 H2 l h => by
    refine ⟨let ⟨n, e, _⟩ := l.ext; ⟨n, e⟩, fun x o hx ex => ?_⟩
    obtain ⟨a1, a2⟩ := l.av hx ex
    refine ⟨a1, fun z => ?_⟩
    rcases z with (z | z) | z
    · exact a2 (.inl z)
    · rw [z, hacc] at ex; cases ex
    · exact a2 (.inr z)
  refine ⟨fun i m H2 => m = it.n - i ∧ i ≤ it.n ∧ ∃ ι2 M2 at' ys, Le ι1 H1 ι2 H2 ∧ Wd (fun x => A x ∨ x = acc) ι2 H2 M2 ∧ H2 acc = some (.lst ys) ∧ RepTs (Av (fun x => A x ∨ x = acc) ι2) H2 ys at' ∧ at'.length ≤ i ∧ Iv i at' M2,
    ⟨it.n, by simp, Nat.zero_le _, ι1, M1, [], [], .fresh hacc, w1.addA hacc, upd_same, .nil, Nat.le_refl _, I0⟩, ?_⟩
  rintro i m H2 ⟨rfl, hin, ι2, M2, at', ys, l2, w2, hys, rys, hat, I2⟩
  have lea := key ι2 H2 l2 w2.na
  by_cases hlt : i < it.n
  · obtain ⟨ok, step⟩ := It i at' M2 hlt hat I2
    obtain ⟨jgo, jy⟩ := (hJ _ ι2 H2 M2 i lea w2 ok).1 hlt
    refine .inr ⟨jgo, fun H' => ∃ ι2 M2 at' ys, Le ι1 H1 ι2 H' ∧ Wd (fun x => A x ∨ x = acc) ι2 H' M2 ∧ H' acc = some (.lst ys) ∧ RepTs (Av (fun x => A x ∨ x = acc) ι2) H' ys at' ∧ at'.length ≤ i + 1 ∧ Iv (i + 1) at' M2, fun H' h => ⟨it.n - (i + 1), by omega, rfl, hlt, h⟩, fun x H3 y => ?_⟩
    obtain ⟨u, hu, l3, w3, r3⟩ := jy x H3 y
    have l13 := l2.trans l3
    have nacc : ∀ {ι' : List Addr} {H' : Hp} {M' : MM}, Wd (fun x => A x ∨ x = acc) ι' H' M' → acc ∉ ι' := fun w z => w.na acc z (.inr rfl)
    have ys3 : H3 acc = some (.lst ys) := l3.fr _ _ hys (nacc w2)
    have env3 : EnvR (fun x => A x ∨ x = acc) ι2 H3 (maskS bs n σ) (maskU bs n ρ) := (e1.mask).lea (key ι2 H3 l13 w3.na)
    refine hg _ ι2 σ H3 _ M2 x u _ _ hσ w3 env3 r3 (step u hu) fun ρ4 σ4 e4 x4 len4 q4 => ⟨⟨x4, len4⟩, ?_⟩
    refine ht _ ι2 σ4 H3 ρ4 M2 _ _ w3 e4 q4 fun b M5 ι5 H5 l5 w5 q5 => ?_
    have ys5 : H5 acc = some (.lst ys) := l5.fr _ _ ys3 (nacc w3)
    have rys5 : RepTs (Av (fun x => A x ∨ x = acc) ι5) H5 ys at' := Paired.mapP rys fun _ _ q => (q.le l3).le l5
    cases b with
    | false => exact ⟨ι5, M5, at', ys, l13.trans l5, w5, ys5, rys5, Nat.le_succ_of_le hat, q5⟩
    | true =>
      refine he _ ι5 σ4 H5 ρ4 M5 _ _ w5 (e4.le l5) q5 fun z M6 ι6 zv H6 l6 w6 r6 q6 => ?_
      obtain ⟨t, rfl, q6⟩ := q6
      have ys6 : H6 acc = some (.lst ys) := l6.fr _ _ ys5 (nacc w5)
      refine ⟨ys, ys6, ?_, ι6, M6, at' ++ [t], ys ++ [zv], ((l13.trans l5).trans l6).updF hacc, (w6.updA (.inr rfl) ys6).2, upd_same, ?_, by rw [List.length_append, List.length_singleton]; omega, q6⟩
      · rw [rys.len]; omega
      · have hl := (w6.updA (o := .lst (ys ++ [zv])) (.inr rfl) ys6).1
        cases r6 with
        | p r6 => exact Paired.app (Paired.mapP rys5 fun _ _ q => (q.le l6).mono hl.av) (.cons (r6.mono hl.av) .nil)
  · have ei : i = it.n := by omega
    subst ei
    obtain ⟨ok, fin⟩ := Id at' M2 I2
    refine .inl ⟨(hJ _ ι2 H2 M2 _ lea w2 ok).2 rfl, k _ M2 ι2 _ H2 (l1.trans l2) (w2.lessA fun x hx => .inl hx) (.p (.lstP (fun z => ?_) hys (Paired.mapP rys fun _ _ q => q.mono fun x o hx ex => ⟨ex, fun z => hx (z.elim (fun z => .inl (.inl z)) .inr)⟩))) fin⟩
    rcases z with z | z
    · exact na (.inl z)
    · exact w2.na acc z (.inr rfl)
end
end L2

namespace L2
open PySem PySem.Spec PyProof.Rows
/-! ### statements, calls, defs -/
section
variable {te ta tb tc : TE} {ue ua ub uc : UE} {tt tt' : TT} {ut ut' : UT} {tl : TA} {ul : UA} {n : Nat} {A A' A2 : Addr → Prop} {H H' H1 H2 : Hp} {ι ι' ι1 ι2 : List Addr} {M M' : MM} {v : V} {u : U} {t : T} {σ : St} {ρ : UEnv} {K : PySem.W.Frag}
structure UEnds where
  nx : UEnv → MM → Prop
  rt : UK
  bk : UEnv → MM → Prop := fun _ _ => False
  ct : UEnv → MM → Prop := fun _ _ => False
abbrev US := UEnds → UEnv → MM → Prop
structure EndsR (A : Addr → Prop) (ι0 : List Addr) (H0 : Hp) (E : UEnds) (D : Ends) : Prop where
  nx : ∀ ι σ H ρ M, Le ι0 H0 ι H → Wd A ι H M → EnvR A ι H σ ρ → E.nx ρ M → D.nx σ H
  rt : ∀ ι v H u M, Le ι0 H0 ι H → Wd A ι H M → RepU A ι H v u → E.rt u M → D.rt v H
  bk : ∀ ι σ H ρ M, Le ι0 H0 ι H → Wd A ι H M → EnvR A ι H σ ρ → E.bk ρ M → D.bk σ H
  ct : ∀ ι σ H ρ M, Le ι0 H0 ι H → Wd A ι H M → EnvR A ι H σ ρ → E.ct ρ M → D.ct σ H
theorem EndsR.le {E : UEnds} {D : Ends} (l : Le ι H ι' H') (r : EndsR A ι H E D) : EndsR A ι' H' E D :=
  ⟨fun _ _ _ _ _ h => r.nx _ _ _ _ _ (l.trans h), fun _ _ _ _ _ h => r.rt _ _ _ _ _ (l.trans h), fun _ _ _ _ _ h => r.bk _ _ _ _ _ (l.trans h), fun _ _ _ _ _ h => r.ct _ _ _ _ _ (l.trans h)⟩
/-- the link of a statement: the ends are linked from the state ahead of it on -/
def LS (ts : TS) (us : US) : Prop := ∀ (A : Addr → Prop) (ι : List Addr) (σ : St) (H : Hp) (ρ : UEnv) (M : MM) (D : Ends) (E : UEnds), Wd A ι H M → EnvR A ι H σ ρ → EndsR A ι H E D → us E ρ M → ts D σ H
variable {ts ts' : TS} {us us' : US}
def uNext : US := fun E ρ M => E.nx ρ M
def uSeq (a b : US) : US := fun E ρ M => a { E with nx := b E } ρ M
def uDrop (ua : UE) : US := fun E ρ M => ua ρ M fun _ M1 => E.nx ρ M1
def uRet (ua : UE) : US := fun E ρ M => ua ρ M E.rt
def uRetN : US := fun E ρ M => E.rt (.p .non) M
def uIfS (c : UT) (a b : US) : US := fun E ρ M => c ρ M fun k M1 => if k = true then a E ρ M1 else b E ρ M1
def uAsg (ua : UE) (g : UG) : US := fun E ρ M => ua ρ M fun x M1 => g x ρ M1 E.nx
theorem ls_next : LS tNext uNext := fun A ι σ H ρ M D E w e r q => r.nx ι σ H ρ M (.refl _ _) w e q
theorem ls_seq (ha : LS ts us) (hb : LS ts' us') : LS (tSeq ts ts') (uSeq us us') := fun A ι σ H ρ M D E w e r q =>
  ha A ι σ H ρ M _ { E with nx := us' E } w e ⟨fun ι1 σ1 H1 ρ1 M1 l w1 e1 q1 => hb A ι1 σ1 H1 ρ1 M1 D E w1 e1 (r.le l) q1, r.rt, r.bk, r.ct⟩ q
theorem ls_drop (ha : LE ta ua) : LS (tDrop ta) (uDrop ua) := fun A ι σ H ρ M D E w e r q =>
  ha A ι σ H ρ M _ _ w e q fun x M1 ι1 v H1 l1 w1 r1 q1 => r.nx ι1 σ H1 ρ M1 l1 w1 (e.le l1) q1
theorem ls_ret (ha : LE ta ua) : LS (tRet ta) (uRet ua) := fun A ι σ H ρ M D E w e r q =>
  ha A ι σ H ρ M _ _ w e q fun x M1 ι1 v H1 l1 w1 r1 q1 => r.rt ι1 v H1 x M1 l1 w1 r1 q1
theorem ls_if (hc : LT tt ut) (ha : LS ts us) (hb : LS ts' us') : LS (tIfS tt ts ts') (uIfS ut us us') := fun A ι σ H ρ M D E w e r q =>
  hc A ι σ H ρ M _ _ w e q fun c M1 ι1 H1 l1 w1 q1 => by
    cases c with
    | true => exact ha A ι1 σ H1 ρ M1 D E w1 (e.le l1) (r.le l1) q1
    | false => exact hb A ι1 σ H1 ρ M1 D E w1 (e.le l1) (r.le l1) q1
theorem ls_asg {g : TG} {ug : UG} (ha : LE ta ua) (hg : LG g ug) : LS (tAsg ta g) (uAsg ua ug) := fun A ι σ H ρ M D E w e r q =>
  ha A ι σ H ρ M _ _ w e q fun x M1 ι1 v H1 l1 w1 r1 q1 => hg A ι1 σ H1 ρ M1 v x _ _ w1 (e.le l1) r1 q1 fun ρ2 M2 ι2 σ2 H2 l2 w2 e2 q2 => r.nx ι2 σ2 H2 ρ2 M2 (l1.trans l2) w2 e2 q2
def UFor (it : UIt) (ug : UG) (ub : US) (E : UEnds) (ρ : UEnv) (M1 : MM) : Prop := ∃ Iv : Nat → UEnv → MM → Prop, Iv 0 ρ M1 ∧
  (∀ i ρ2 M2, i < it.n → Iv i ρ2 M2 → it.ok M2 ∧ ∀ u, it.item i u → ug u ρ2 M2 fun ρ3 M3 => ub { E with nx := Iv (i + 1), ct := Iv (i + 1), bk := E.nx } ρ3 M3) ∧
  (∀ ρ2 M2, Iv it.n ρ2 M2 → it.ok M2 ∧ E.nx ρ2 M2)
def uFor (ui : UI) (ug : UG) (ub : US) : US := fun E ρ M => ui ρ M fun it M1 => UFor it ug ub E ρ M1
theorem ls_for {wi : TI} {ui : UI} {g : TG} {ug : UG} (hi : LI wi ui) (hg : LG g ug) (hb : LS ts us) : LS (tFor wi g ts) (uFor ui ug us) := by
  intro A ι σ H ρ M D E w e r q
  refine hi A ι σ H ρ M _ _ w e q fun it M1 ι1 J H1 l1 w1 hJ q1 => ?_
  obtain ⟨Iv, I0, It, Id⟩ := q1
  have r1 := r.le l1
  refine ⟨fun i m σ2 H2 => m = it.n - i ∧ i ≤ it.n ∧ ∃ ι2 ρ2 M2, Le ι1 H1 ι2 H2 ∧ Wd A ι2 H2 M2 ∧ EnvR A ι2 H2 σ2 ρ2 ∧ Iv i ρ2 M2, ⟨it.n, by simp, Nat.zero_le _, ι1, ρ, M1, .refl _ _, w1, e.le l1, I0⟩, ?_⟩
  rintro i m σ2 H2 ⟨rfl, hin, ι2, ρ2, M2, l2, w2, e2, I2⟩
  by_cases hlt : i < it.n
  · obtain ⟨ok, step⟩ := It i ρ2 M2 hlt I2
    obtain ⟨jgo, jy⟩ := (hJ A ι2 H2 M2 i l2.lea w2 ok).1 hlt
    refine .inr ⟨jgo, fun σ' H' => ∃ ι2 ρ2 M2, Le ι1 H1 ι2 H' ∧ Wd A ι2 H' M2 ∧ EnvR A ι2 H' σ' ρ2 ∧ Iv (i + 1) ρ2 M2, fun σ' H' h => ⟨it.n - (i + 1), by omega, rfl, hlt, h⟩, fun x H3 y => ?_⟩
    obtain ⟨u, hu, l3, w3, r3⟩ := jy x H3 y
    refine hg A ι2 σ2 H3 ρ2 M2 x u _ _ w3 (e2.le l3) r3 (step u hu) fun ρ4 M4 ι4 σ4 H4 l4 w4 e4 q4 => ?_
    have l14 := (l2.trans l3).trans l4
    exact hb A ι4 σ4 H4 ρ4 M4 _ { E with nx := Iv (i + 1), ct := Iv (i + 1), bk := E.nx } w4 e4 ⟨fun ι5 σ5 H5 ρ5 M5 l5 w5 e5 q5 => ⟨ι5, ρ5, M5, l14.trans l5, w5, e5, q5⟩, (r1.le l14).rt, (r1.le l14).nx, fun ι5 σ5 H5 ρ5 M5 l5 w5 e5 q5 => ⟨ι5, ρ5, M5, l14.trans l5, w5, e5, q5⟩⟩ q4
  · have ei : i = it.n := by omega
    subst ei
    obtain ⟨ok, fin⟩ := Id ρ2 M2 I2
    exact .inl ⟨(hJ A ι2 H2 M2 _ l2.lea w2 ok).2 rfl, r1.nx ι2 σ2 H2 ρ2 M2 l2 w2 e2 fin⟩
def uWhile (uc : UT) (ub : US) : US := fun E ρ M => ∃ W : Nat → UEnv → MM → Prop, (∃ m, W m ρ M) ∧ ∀ m ρ M, W m ρ M →
  uc ρ M fun b M1 => if b = true then ∃ N : UEnv → MM → Prop, (∀ ρ' M', N ρ' M' → ∃ m', m' < m ∧ W m' ρ' M') ∧ ub { E with nx := N, ct := N, bk := E.nx } ρ M1 else E.nx ρ M1
theorem ls_while (hc : LT tt ut) (hb : LS ts us) : LS (tWhile tt ts) (uWhile ut us) := by
  intro A ι σ H ρ M D E w e r q
  obtain ⟨W, ⟨m0, W0⟩, step⟩ := q
  refine ⟨fun m σ2 H2 => ∃ ι2 ρ2 M2, Le ι H ι2 H2 ∧ Wd A ι2 H2 M2 ∧ EnvR A ι2 H2 σ2 ρ2 ∧ W m ρ2 M2, ⟨m0, ι, ρ, M, .refl _ _, w, e, W0⟩, ?_⟩
  rintro m σ2 H2 ⟨ι2, ρ2, M2, l2, w2, e2, W2⟩
  refine hc A ι2 σ2 H2 ρ2 M2 _ _ w2 e2 (step m ρ2 M2 W2) fun b M3 ι3 H3 l3 w3 q3 => ?_
  cases b with
  | false => exact r.nx ι3 σ2 H3 ρ2 M3 (l2.trans l3) w3 (e2.le l3) q3
  | true =>
    obtain ⟨N, hN, q3⟩ := q3
    have l13 := l2.trans l3
    refine ⟨fun σ' H' => ∃ ι4 ρ4 M4, Le ι H ι4 H' ∧ Wd A ι4 H' M4 ∧ EnvR A ι4 H' σ' ρ4 ∧ N ρ4 M4, ?_, ?_⟩
    · rintro σ' H' ⟨ι4, ρ4, M4, l4, w4, e4, n4⟩
      obtain ⟨m', hm, W4⟩ := hN ρ4 M4 n4
      exact ⟨m', hm, ι4, ρ4, M4, l4, w4, e4, W4⟩
    · exact hb A ι3 σ2 H3 ρ2 M3 _ { E with nx := N, ct := N, bk := E.nx } w3 (e2.le l3) ⟨fun ι5 σ5 H5 ρ5 M5 l5 w5 e5 q5 => ⟨ι5, ρ5, M5, l13.trans l5, w5, e5, q5⟩, (r.le l13).rt, (r.le l13).nx, fun ι5 σ5 H5 ρ5 M5 l5 w5 e5 q5 => ⟨ι5, ρ5, M5, l13.trans l5, w5, e5, q5⟩⟩ q3
/-! methods of lists that change -/
def MeL (r : V → List V → Hp → VK → Prop) (s : List U → List U → (U → List U → Prop) → Prop) : Prop := ∀ (A : Addr → Prop) (ι : List Addr) (H : Hp) (M : MM) (k : Nat) (a : Addr) (xs ys : List V) (us ws : List U) (Qs : U → List U → Prop) (Q : VK), Wd A ι H M → ι[k]? = some a → H a = some (.lst xs) → M[k]? = some (.lst us) → RepUs A ι H xs us → RepUs A ι H ys ws → s us ws Qs →
  (∀ z us' v xs', RepUs A ι H xs' us' → RepU A ι H v z → Qs z us' → Q v (upd H a (.lst xs'))) → r (.ref a) ys H Q
def uMe (s : List U → List U → (U → List U → Prop) → Prop) (uo : UE) (ul : UA) : UE := fun ρ M Q => uo ρ M fun o M1 => ∃ k, o = .m k ∧ (∃ zs, M1[k]? = some (.lst zs)) ∧ ul ρ M1 fun ws M2 => ∃ us, M2[k]? = some (.lst us) ∧ s us ws fun z us' => Q z (M2.set k (.lst us'))
theorem le_me {r : V → List V → Hp → VK → Prop} {s : List U → List U → (U → List U → Prop) → Prop} (h : MeL r s) (ha : LE ta ua) (hl : LA n tl ul) : LE (tLM r ta tl) (uMe s ua ul) := fun A ι σ H ρ M Qu Q w e q k =>
  ha A ι σ H ρ M _ _ w e q fun o M1 ι1 v H1 l1 w1 r1 ⟨kk, eo, ⟨zs, hz⟩, q1⟩ => by
    subst eo
    cases r1 with
    | m ek =>
    rename_i a
    obtain ⟨xs1, h1, _⟩ := w1.obj kk a _ ek hz
    refine ⟨a, xs1, rfl, h1, hl A ι1 σ H1 ρ M1 _ _ w1 (e.le l1) q1 fun ws M2 ι2 ys H2 l2 w2 hn r2 q2 => ?_⟩
    obtain ⟨us, hus, q2⟩ := q2
    have ek2 : ι2[kk]? = some a := by
      obtain ⟨nn, rfl, _⟩ := l2.ext
      rw [List.getElem?_append_left (List.getElem?_eq_some_iff.mp ek).1]; exact ek
    obtain ⟨xs2, h3, h4⟩ := w2.obj kk a _ ek2 hus
    have hm := List.mem_of_getElem? ek2
    exact h A ι2 H2 M2 kk a xs2 ys us ws _ Q w2 ek2 h3 hus h4 r2 q2 fun z us' zv xs' rx rz qz => k z _ ι2 zv _ ((l1.trans l2).trans (.put hm)) (w2.put (mo := .lst us') ek2 ⟨xs', upd_same, RepUs.le (.put hm) rx⟩) (rz.le (.put hm)) qz
def sAppend : List U → List U → (U → List U → Prop) → Prop := fun us ws Q => ∃ y, ws = [y] ∧ us.length < sizeLine ∧ Q (.p .non) (us ++ [y])
theorem mel_append : MeL rAppend sAppend := fun A ι H M k a xs ys us ws Qs Q w ek h1 h2 rx ry ⟨y, ey, hz, q⟩ kk => by
  subst ey
  cases ry with
  | cons r q' =>
  cases q'
  exact ⟨a, xs, _, rfl, rfl, h1, by rw [rx.len]; exact hz, kk _ _ _ _ (rx.app (.cons r .nil)) (.p .non) q⟩
/-! calls of defs -/
def spU (G : List U → MM → UK → Prop) : Sp := fun vs H Q _ => ∃ A ι M us Qu, Wd A ι H M ∧ RepUs A ι H vs us ∧ G us M Qu ∧ ∀ u M' ι' v H', Le ι H ι' H' → Wd A ι' H' M' → RepU A ι' H' v u → Qu u M' → Q v H'
def uCall (G : List U → MM → UK → Prop) (ul : UA) : UE := fun ρ M Q => ul ρ M fun us M1 => G us M1 Q
theorem le_callU {G : List U → MM → UK → Prop} {E : XK} (ha : LA n tl ul) : LE (tCall (spU G) [] E tl) (uCall G ul) := fun A ι σ H ρ M Qu Q w e q k =>
  ha A ι σ H ρ M _ _ w e q fun us M1 ι1 vs H1 l1 w1 hn r1 q1 => by
    rw [List.append_nil]
    exact ⟨A, ι1, M1, us, _, w1, r1, q1, fun u M2 ι2 v H2 l2 w2 r2 q2 => k u M2 ι2 v H2 (l1.trans l2) w2 r2 q2⟩
def spP (G : List T → (T → Prop) → Prop) : Sp := fun vs H Q _ => ∃ A ts Qt, (∀ x, A x → H x ≠ none) ∧ RepTs A H vs ts ∧ G ts Qt ∧ ∀ t v H', Same H H' → RepT A H' v t → Qt t → Q v H'
def uCallP (G : List T → (T → Prop) → Prop) (ul : UA) : UE := fun ρ M Q => ul ρ M fun us M1 => ∃ ts, pureUs us = some ts ∧ G ts fun t => Q (.p t) M1
/-- of snapshots; what comes is flat -/
def uCallS (G : List T → (T → Prop) → Prop) (ul : UA) : UE := fun ρ M Q => ul ρ M fun us M1 => ∃ ts, sns M1 us = some ts ∧ G ts fun t => (∃ x, vt t = some x) ∧ Q (.p t) M1
theorem Same.le (s : Same H H') : Le ι H ι H' := ⟨⟨[], by simp, by simp⟩, fun x o e _ => s x o e, fun x e => by
  cases q : H x with
  | none => exact absurd q e
  | some o => rw [s x o q]; simp⟩
theorem Wd.same (w : Wd A ι H M) (s : Same H H') : Wd A ι H' M :=
  ⟨w.nd, w.len, fun x hx => (Same.le (ι := ι) s).al x (w.dom x hx), w.na, fun k a ob e1 e2 => (w.obj k a ob e1 e2).le' s.le (by
    obtain ⟨o, ho⟩ := (w.obj k a ob e1 e2).some
    rw [ho, s _ _ ho]) fun x ex => by rw [ex, s _ _ ex]⟩
theorem Wd.domAv (w : Wd A ι H M) : ∀ x, Av A ι x → H x ≠ none := fun x h => by
  rcases h with h | h
  · exact w.dom x h
  · obtain ⟨o, ho⟩ := w.mem_some h
    rw [ho]; simp
theorem le_callP {G : List T → (T → Prop) → Prop} {E : XK} (ha : LA n tl ul) : LE (tCall (spP G) [] E tl) (uCallP G ul) := fun A ι σ H ρ M Qu Q w e q k =>
  ha A ι σ H ρ M _ _ w e q fun us M1 ι1 vs H1 l1 w1 hn r1 ⟨ts, et, q1⟩ => by
    rw [List.append_nil]
    rw [pureUs_eq et] at r1
    exact ⟨Av A ι1, ts, _, w1.domAv, r1.pures, q1, fun t v H2 s r2 q2 => k _ M1 ι1 v H2 (l1.trans s.le) (w1.same s) (.p r2) q2⟩
/-! freezing -/
def frzs (f : U → Option T) : List U → Option (List T)
  | [] => some []
  | u :: r => match f u, frzs f r with
    | some t, some ts => some (t :: ts)
    | _, _ => none
def frzN : Nat → MM → U → Option T
  | _, _, .p t => some t
  | 0, _, .m _ => none
  | n + 1, M, .m k => match M[k]? with
    | some (.lst us) => (frzs (frzN n M) us).map T.lst
    | some (.tup us) => (frzs (frzN n M) us).map T.tup
    | _ => none
theorem frzs_rep {f : U → Option T} {vs : List V} {us : List U} {ts : List T} (r : RepUs A ι H vs us) (h : ∀ v u t, RepU A ι H v u → f u = some t → RepT A H v t) (e : frzs f us = some ts) : RepTs A H vs ts := by
  induction r generalizing ts with
  | nil => simp [frzs] at e; subst e; exact .nil
  | cons r q ih =>
    simp only [frzs] at e
    split at e
    · rename_i h1 h2
      simp at e; subst e
      exact .cons (h _ _ _ r h1) (ih h2)
    · cases e
theorem frz_rep (w : Wd A ι H M) : ∀ {n : Nat} {v : V} {u : U} {t : T}, RepU A ι H v u → frzN n M u = some t → RepT A H v t
  | n, v, .p t', t, .p r, e => by
    cases n <;> simp [frzN] at e <;> subst e <;> exact r.mono fun x o hx ex => ⟨ex, fun z => hx (.inl z)⟩
  | 0, v, .m k, t, r, e => by simp [frzN] at e
  | n + 1, v, .m k, t, r, e => by
    cases r with
    | m q =>
    obtain ⟨o, h1, h2⟩ := w.al q
    have hna := w.na _ (List.mem_of_getElem? q)
    simp only [frzN, h1] at e
    cases o with
    | lst us =>
      simp at e
      obtain ⟨ts, e1, rfl⟩ := e
      obtain ⟨vs, h3, h4⟩ := h2
      exact .lstP hna h3 (frzs_rep h4 (fun v u t r e => frz_rep w r e) e1)
    | tup us =>
      simp at e
      obtain ⟨ts, e1, rfl⟩ := e
      obtain ⟨vs, h3, h4⟩ := h2
      exact .tupP hna h3 (frzs_rep h4 (fun v u t r e => frz_rep w r e) e1)
    | ins => simp at e
    | dK => simp at e
@[simp] theorem frzN_p {n : Nat} {M : MM} {t : T} : frzN n M (.p t) = some t := by cases n <;> rfl
def startU (N : List Str) (us : List U) : UEnv := us.map some ++ List.replicate (N.length - us.length) none
theorem start_rep {N : List Str} {vs : List V} {us : List U} (r : RepUs A ι H vs us) : EnvR A ι H (start N vs) (startU N us) := by
  unfold start startU
  refine Paired.app ?_ ?_
  · exact Paired.mapR (f := some) (F := fun s u => ∃ v, s = some v ∧ RepU A ι H v u) (fun a b q u e => by cases e; exact q) (by
      induction r with
      | nil => exact .nil
      | cons r q ih => exact .cons ⟨_, rfl, r⟩ ih)
  · rw [r.len]
    generalize N.length - us.length = m
    induction m with
    | zero => exact .nil
    | succ m ih => exact .cons (fun u e => by cases e) ih
end
section
variable {P : Program} {w : World} {K : PySem.W.Frag} {mg : Str → Option Value} {base : Heap}
theorem Fun.okU {x qual : Str} {st : Stmt} {f : Addr} {fd : FuncData} {N ps : List Str} {k : Nat} {G : List U → MM → UK → Prop} (F : Fun K x qual st f fd) (S : FnScope N ps (defScope st)) (len : ∀ us M Qu, G us M Qu → us.length = ps.length)
    (hbody : ∀ (cdv : Value) (A : Around) (outer : List Env) (s : Shared) (H : Hp) (E : XK), Room k (A.deeper (envOfC qual (defScope st) s.heap.objs.size f cdv)) →
      ∃ t, PSs (cxOf CX0 P w K mg base N qual (defScope st) f cdv A outer s H E).nox (defBody st) t ∧ ∃ u, LS t u ∧ ∀ us M Qu, G us M Qu → u { nx := fun _ M' => Qu (.p .non) M', rt := Qu } (startU N us) M) : FnOk P w K mg base CX0 (k + 1) f fd ps (spU G) := by
  refine F.ok S (fun vs H Q E h => ?_) (fun cdv A outer s H vs Q E hr h => ?_)
  · obtain ⟨A, ι, M, us, Qu, w1, r, g, _⟩ := h
    rw [r.len]; exact len us M Qu g
  · obtain ⟨B, ι, M, us, Qu, w1, r, g, kk⟩ := h
    obtain ⟨t, ht, u, hu, hb⟩ := hbody cdv A outer s H E hr
    refine ⟨t, ht, hu B ι _ H _ M _ { nx := fun _ M' => Qu (.p .non) M', rt := Qu } w1 (start_rep r) ⟨fun ι1 σ1 H1 ρ1 M1 l1 w1 e1 q1 => kk _ M1 ι1 _ H1 l1 w1 (.p .non) q1, fun ι1 v H1 z M1 l1 w1 r1 q1 => kk z M1 ι1 v H1 l1 w1 r1 q1, fun _ _ _ _ _ _ _ _ q => q.elim, fun _ _ _ _ _ _ _ _ q => q.elim⟩ (hb us M Qu g)⟩
theorem Fun.okP {x qual : Str} {st : Stmt} {f : Addr} {fd : FuncData} {N ps : List Str} {k : Nat} {G : List T → (T → Prop) → Prop} (F : Fun K x qual st f fd) (S : FnScope N ps (defScope st)) (len : ∀ ts Qt, G ts Qt → ts.length = ps.length)
    (hbody : ∀ (cdv : Value) (A : Around) (outer : List Env) (s : Shared) (H : Hp) (E : XK), Room k (A.deeper (envOfC qual (defScope st) s.heap.objs.size f cdv)) →
      ∃ t, PSs (cxOf CX0 P w K mg base N qual (defScope st) f cdv A outer s H E).nox (defBody st) t ∧ ∃ u, LS t u ∧ ∀ ts Qt, G ts Qt → u { nx := fun _ _ => Qt .non, rt := fun z M' => ∃ t, frzN 4 M' z = some t ∧ Qt t } (startU N (ts.map U.p)) []) : FnOk P w K mg base CX0 (k + 1) f fd ps (spP G) := by
  refine F.ok S (fun vs H Q E h => ?_) (fun cdv A outer s H vs Q E hr h => ?_)
  · obtain ⟨A, ts, Qt, hd, r, g, _⟩ := h
    rw [r.len]; exact len ts Qt g
  · obtain ⟨B, ts, Qt, hd, r, g, kk⟩ := h
    obtain ⟨t, ht, u, hu, hb⟩ := hbody cdv A outer s H E hr
    have w0 : Wd B [] H [] := ⟨List.nodup_nil, rfl, hd, fun x hx => by simp at hx, fun k a o e _ => by simp at e⟩
    have same : ∀ {ι1 : List Addr} {H1 : Hp}, Le [] H ι1 H1 → Same H H1 := fun l b o e => l.fr b o e (by simp)
    have r0 : RepUs B [] H vs (ts.map U.p) := RepTs.ups (Paired.mapP r fun _ _ q => q.mono fun x o hx ex => ⟨ex, fun z => z.elim hx (by simp)⟩)
    refine ⟨t, ht, hu B [] _ H _ [] _ { nx := fun _ _ => Qt .non, rt := fun z M' => ∃ t, frzN 4 M' z = some t ∧ Qt t } w0 (start_rep r0) ⟨fun ι1 σ1 H1 ρ1 M1 l1 w1 e1 q1 => kk _ _ H1 (same l1) .non q1, fun ι1 v H1 z M1 l1 w1 r1 ⟨t1, et, q1⟩ => kk t1 v H1 (same l1) (frz_rep w1 r1 et) q1, fun _ _ _ _ _ _ _ _ q => q.elim, fun _ _ _ _ _ _ _ _ q => q.elim⟩ (hb ts Qt g)⟩
end
end L2

namespace L2
open PySem PySem.Spec PyProof.Rows
/-! ### steps of readings over trees, as equations -/
section
variable {ua ub uc : UE} {ut ut' : UT} {ul : UA} {us us' : US} {n : Nat} {M M1 : MM} {u : U} {t : T} {ρ : UEnv} {Q : UK} {QB : Bool → MM → Prop} {QA : List U → MM → Prop} {E : UEnds} {ug : UG}
def OpS (s : T → T → (T → Prop) → Prop) (M : MM) (x y : U) (Q : UK) : Prop := ∃ a b, sn M x = some a ∧ sn M y = some b ∧ s a b fun t => Q (.p t) M
theorem rd_op {s : T → T → (T → Prop) → Prop} : uOp s ua ub ρ M Q = ua ρ M fun x M1 => ub ρ M1 fun y M2 => OpS s M2 x y Q := rfl
theorem rd_opS {s : T → T → (T → Prop) → Prop} {a b : T} : OpS s M (.p a) (.p b) Q = s a b fun t => Q (.p t) M :=
  propext ⟨fun ⟨_, _, e1, e2, h⟩ => by cases e1; cases e2; exact h, fun h => ⟨a, b, rfl, rfl, h⟩⟩
theorem rd_sI {C : Int → Int → Prop} {g : Int → Int → T} {i j : Int} {Q : T → Prop} : sI C g (.int i) (.int j) Q = (C i j ∧ Q (g i j)) :=
  propext ⟨fun ⟨_, _, e1, e2, h⟩ => by cases e1; cases e2; exact h, fun h => ⟨i, j, rfl, rfl, h⟩⟩
theorem rd_sI0 {g : Int → Int → T} {i j : Int} {Q : T → Prop} : sI0 g (.int i) (.int j) Q = Q (g i j) :=
  propext ⟨fun ⟨_, _, e1, e2, h⟩ => by cases e1; cases e2; exact h, fun h => ⟨i, j, rfl, rfl, h⟩⟩
theorem rd_eqI {i j : Int} {Q : T → Prop} : sEq false (.int i) (.int j) Q = Q (.bl (decide (i = j))) := by
  refine propext ⟨fun ⟨x, y, e1, e2, _, h⟩ => ?_, fun h => ⟨_, _, rfl, rfl, rfl, ?_⟩⟩
  · simp [vt] at e1 e2; subst e1 e2; simpa using h
  · simpa using h
theorem rd_neI {i j : Int} {Q : T → Prop} : sEq true (.int i) (.int j) Q = Q (.bl (!decide (i = j))) := by
  refine propext ⟨fun ⟨x, y, e1, e2, _, h⟩ => ?_, fun h => ⟨_, _, rfl, rfl, rfl, ?_⟩⟩
  · simp [vt] at e1 e2; subst e1 e2; simpa using h
  · simpa using h
theorem rd_eqS {i j : Str} {Q : T → Prop} : sEq false (.str i) (.str j) Q = Q (.bl (decide (i = j))) := by
  refine propext ⟨fun ⟨x, y, e1, e2, _, h⟩ => ?_, fun h => ⟨_, _, rfl, rfl, rfl, ?_⟩⟩
  · simp [vt] at e1 e2; subst e1 e2; simpa using h
  · simpa using h
theorem rd_neS {i j : Str} {Q : T → Prop} : sEq true (.str i) (.str j) Q = Q (.bl (!decide (i = j))) := by
  refine propext ⟨fun ⟨x, y, e1, e2, _, h⟩ => ?_, fun h => ⟨_, _, rfl, rfl, rfl, ?_⟩⟩
  · simp [vt] at e1 e2; subst e1 e2; simpa using h
  · simpa using h
theorem rd_eqB {i j : Bool} {Q : T → Prop} : sEq false (.bl i) (.bl j) Q = Q (.bl (decide (i = j))) := by
  refine propext ⟨fun ⟨x, y, e1, e2, _, h⟩ => ?_, fun h => ⟨_, _, rfl, rfl, rfl, ?_⟩⟩
  · simp [vt] at e1 e2; subst e1 e2; simpa using h
  · simpa using h
theorem rd_neB {i j : Bool} {Q : T → Prop} : sEq true (.bl i) (.bl j) Q = Q (.bl (!decide (i = j))) := by
  refine propext ⟨fun ⟨x, y, e1, e2, _, h⟩ => ?_, fun h => ⟨_, _, rfl, rfl, rfl, ?_⟩⟩
  · simp [vt] at e1 e2; subst e1 e2; simpa using h
  · simpa using h
def VarS (o : Option (Option U)) (M : MM) (Q : UK) : Prop := ∃ u, o = some (some u) ∧ Q u M
theorem rd_var {i : Nat} : uVar i ρ M Q = VarS ρ[i]? M Q := rfl
theorem rd_varS : VarS (some (some u)) M Q = Q u M := propext ⟨fun ⟨_, e, h⟩ => by cases e; exact h, fun h => ⟨u, rfl, h⟩⟩
def IntS (x : U) (R : Int → Prop) : Prop := ∃ i, x = .p (.int i) ∧ R i
theorem rd_intS {i : Int} {R : Int → Prop} : IntS (.p (.int i)) R = R i := propext ⟨fun ⟨_, e, h⟩ => by cases e; exact h, fun h => ⟨i, rfl, h⟩⟩
def BlS (x : U) (R : Bool → Prop) : Prop := ∃ b, x = .p (.bl b) ∧ R b
theorem rd_blS {b : Bool} {R : Bool → Prop} : BlS (.p (.bl b)) R = R b := propext ⟨fun ⟨_, e, h⟩ => by cases e; exact h, fun h => ⟨b, rfl, h⟩⟩
theorem rd_neg : uNeg ua ρ M Q = ua ρ M fun x M1 => IntS x fun i => Q (.p (.int (-i))) M1 := rfl
theorem rd_bits : uBits ua ρ M Q = ua ρ M fun x M1 => IntS x fun i => Q (.p (.int (Builtin.Int.intBits i))) M1 := rfl
theorem rd_b : uB ua ρ M QB = ua ρ M fun x M1 => BlS x fun b => QB b M1 := rfl
theorem rd_andV : uAndV ua ub ρ M Q = ua ρ M fun x M1 => BlS x fun c => if c = true then ub ρ M1 Q else Q (.p (.bl false)) M1 := rfl
theorem rd_orV : uOrV ua ub ρ M Q = ua ρ M fun x M1 => BlS x fun c => if c = true then Q (.p (.bl true)) M1 else ub ρ M1 Q := rfl
theorem rd_notV : uNotV ua ρ M Q = ua ρ M fun x M1 => BlS x fun c => Q (.p (.bl (!c))) M1 := rfl
/-- a chain's second step -/
def ChS (s' : T → T → (T → Prop) → Prop) (uc : UE) (ρ : UEnv) (M : MM) (y : U) (Q : UK) (z : T) : Prop := ∃ k, z = .bl k ∧ if k = true then uc ρ M fun c M3 => OpS s' M3 y c Q else Q (.p (.bl false)) M
theorem rd_chain {s s' : T → T → (T → Prop) → Prop} : uChain s s' ua ub uc ρ M Q = ua ρ M fun x M1 => ub ρ M1 fun y M2 => OpS s M2 x y fun z _ => ∃ t, z = .p t ∧ ChS s' uc ρ M2 y Q t :=
  propext (by
    have e : ∀ (x y : U) (M2 : MM), (∃ a b, sn M2 x = some a ∧ sn M2 y = some b ∧ s a b fun z => ∃ k, z = .bl k ∧ if k = true then uc ρ M2 fun c M3 => ∃ b' c', sn M3 y = some b' ∧ sn M3 c = some c' ∧ s' b' c' fun t => Q (.p t) M3 else Q (.p (.bl false)) M2) = (OpS s M2 x y fun z _ => ∃ t, z = .p t ∧ ChS s' uc ρ M2 y Q t) := fun x y M2 => by
      unfold OpS ChS
      have : ∀ z : T, (∃ t, U.p z = .p t ∧ ∃ k, t = .bl k ∧ if k = true then uc ρ M2 fun c M3 => OpS s' M3 y c Q else Q (.p (.bl false)) M2) = (∃ k, z = .bl k ∧ if k = true then uc ρ M2 fun c M3 => ∃ b' c', sn M3 y = some b' ∧ sn M3 c = some c' ∧ s' b' c' fun t => Q (.p t) M3 else Q (.p (.bl false)) M2) := fun z =>
        propext ⟨fun ⟨t, e, h⟩ => by cases e; exact h, fun h => ⟨z, rfl, h⟩⟩
      simp only [this]
    unfold uChain
    simp only [e])
theorem rd_chP {s' : T → T → (T → Prop) → Prop} {y : U} {b : Bool} : (∃ t, U.p (.bl b) = .p t ∧ ChS s' uc ρ M y Q t) = if b = true then uc ρ M fun c M3 => OpS s' M3 y c Q else Q (.p (.bl false)) M :=
  propext ⟨fun ⟨t, e, k, e2, h⟩ => by cases e; cases e2; exact h, fun h => ⟨_, rfl, b, rfl, h⟩⟩
def PurS (us : List U) (R : List T → Prop) : Prop := ∃ ts, pureUs us = some ts ∧ R ts
theorem rd_purS {ts : List T} {R : List T → Prop} : PurS (ts.map U.p) R = R ts := propext ⟨fun ⟨_, e, h⟩ => by rw [pureUs_map] at e; cases e; exact h, fun h => ⟨ts, pureUs_map ts, h⟩⟩
theorem rd_pur0 {R : List T → Prop} : PurS [] R = R [] := rd_purS (ts := [])
theorem rd_purC {a : T} {us : List U} {R : List T → Prop} : PurS (.p a :: us) R = PurS us fun ts => R (a :: ts) := by
  refine propext ⟨fun ⟨ts, e, h⟩ => ?_, fun ⟨ts, e, h⟩ => ⟨a :: ts, by simp [pureUs, e], h⟩⟩
  simp [pureUs] at e
  obtain ⟨r, e1, rfl⟩ := e
  exact ⟨r, e1, h⟩
theorem rd_tup : uTup ul ρ M Q = ul ρ M fun us M1 => PurS us fun ts => Q (.p (.tup ts)) M1 := rfl
theorem rd_lst : uLst ul ρ M Q = ul ρ M fun us M1 => PurS us fun ts => Q (.p (.lst ts)) M1 := rfl
def IxS (it : MM → U → Option (List U)) (M : MM) (x y : U) (Q : UK) : Prop := ∃ us i z, it M x = some us ∧ y = .p (.int i) ∧ atI us i = some z ∧ Q z M
theorem rd_ix {it : MM → U → Option (List U)} : uIx it ua ub ρ M Q = ua ρ M fun x M1 => ub ρ M1 fun y M2 => IxS it M2 x y Q := rfl
theorem ix_at {it : MM → U → Option (List U)} {x : U} {us : List U} {i : Int} {z : U} (h1 : it M x = some us) (h2 : atI us i = some z) (q : Q z M) : IxS it M x (.p (.int i)) Q := ⟨us, i, z, h1, rfl, h2, q⟩
theorem atI_map {ts : List T} {i : Int} {t : T} (h : atI ts i = some t) : atI (ts.map U.p) i = some (.p t) := by
  unfold atI at h ⊢
  rw [List.length_map]
  cases e : ixN ts.length i with
  | none => rw [e] at h; cases h
  | some j => rw [e] at h; simp at h ⊢; rw [h]
theorem ixl_at {ts : List T} {i : Int} {t : T} (h : atI ts i = some t) (q : Q (.p t) M) : IxS itemsL M (.p (.lst ts)) (.p (.int i)) Q := ix_at rfl (atI_map h) q
theorem ixt_at {ts : List T} {i : Int} {t : T} (h : atI ts i = some t) (q : Q (.p t) M) : IxS itemsT M (.p (.tup ts)) (.p (.int i)) Q := ix_at rfl (atI_map h) q
def SnsS (M : MM) (us : List U) (R : List T → Prop) : Prop := ∃ ts, sns M us = some ts ∧ R ts
theorem rd_sns0 {R : List T → Prop} : SnsS M [] R = R [] := propext ⟨fun ⟨_, e, h⟩ => by cases e; exact h, fun h => ⟨[], rfl, h⟩⟩
theorem rd_snsC {a : T} {us : List U} {R : List T → Prop} : SnsS M (.p a :: us) R = SnsS M us fun ts => R (a :: ts) := by
  refine propext ⟨fun ⟨ts, e, h⟩ => ?_, fun ⟨ts, e, h⟩ => ⟨a :: ts, by simp [sns, sn, e], h⟩⟩
  simp only [sns, sn] at e
  cases q : sns M us with
  | none => rw [q] at e; cases e
  | some r => rw [q] at e; simp at e; subst e; exact ⟨r, q, h⟩
theorem rd_cb {s : List T → (T → Prop) → Prop} : uCb s ul ρ M Q = ul ρ M fun us M1 => SnsS M1 us fun ts => s ts fun t => Q (.p t) M1 := rfl
theorem rd_abs' {i : Int} {Q : T → Prop} : sAbs [.int i] Q = Q (.int (if i < 0 then -i else i)) := propext ⟨fun ⟨_, e, h⟩ => by cases e; exact h, fun h => ⟨i, rfl, h⟩⟩
theorem rd_min' {i j : Int} {Q : T → Prop} : sMin [.int i, .int j] Q = Q (.int (if j < i then j else i)) := propext ⟨fun ⟨_, _, e, h⟩ => by cases e; exact h, fun h => ⟨i, j, rfl, h⟩⟩
theorem rd_max' {i j : Int} {Q : T → Prop} : sMax [.int i, .int j] Q = Q (.int (if j > i then j else i)) := propext ⟨fun ⟨_, _, e, h⟩ => by cases e; exact h, fun h => ⟨i, j, rfl, h⟩⟩
theorem rd_int' {i : Int} {Q : T → Prop} : sInt [.int i] Q = Q (.int i) := by
  refine propext ⟨fun h => ?_, fun h => Or.inl ⟨i, rfl, h⟩⟩
  rcases h with ⟨_, e, h⟩ | ⟨_, e, h⟩
  · cases e; exact h
  · cases e
theorem rd_intB {k : Bool} {Q : T → Prop} : sInt [.bl k] Q = Q (.int (if k then 1 else 0)) := by
  refine propext ⟨fun h => ?_, fun h => Or.inr ⟨k, rfl, h⟩⟩
  rcases h with ⟨_, e, h⟩ | ⟨_, e, h⟩
  · cases e
  · cases e; exact h
def LenS (it : MM → U → Option (List U)) (M : MM) (us : List U) (Q : UK) : Prop := ∃ x ys, us = [x] ∧ it M x = some ys ∧ Q (.p (.int ys.length)) M
theorem rd_len {it : MM → U → Option (List U)} : uLen it ul ρ M Q = ul ρ M fun us M1 => LenS it M1 us Q := rfl
theorem rd_lenP {ts : List T} : LenS itemsL M [.p (.lst ts)] Q = Q (.p (.int ts.length)) M :=
  propext ⟨fun ⟨_, _, e1, e2, h⟩ => by cases e1; cases e2; rw [List.length_map] at h; exact h, fun h => ⟨_, _, rfl, rfl, by rw [List.length_map]; exact h⟩⟩
theorem len_at' {k : Nat} {us : List U} (e : M[k]? = some (.lst us)) (h : Q (.p (.int us.length)) M) : LenS itemsL M [.m k] Q := ⟨_, _, rfl, by simp [itemsL, e], h⟩
def SlS (M : MM) (x : U) (l h : Option Int) (Q : UK) : Prop := ∃ ts, sn M x = some (.lst ts) ∧ Q (.p (.lst (cutT ts l h))) M
theorem rd_sl {u1 u2 : UO} : uSl ua u1 u2 ρ M Q = ua ρ M fun x M1 => u1 ρ M1 fun l M2 => u2 ρ M2 fun h M3 => SlS M3 x l h Q := rfl
theorem rd_slS {ts : List T} {l h : Option Int} : SlS M (.p (.lst ts)) l h Q = Q (.p (.lst (cutT ts l h))) M := propext ⟨fun ⟨_, e, h⟩ => by cases e; exact h, fun h => ⟨ts, rfl, h⟩⟩
theorem rd_part {QO : Option Int → MM → Prop} : uPart ua ρ M QO = ua ρ M fun x M1 => IntS x fun i => QO (some i) M1 := rfl
theorem rd_noPart {QO : Option Int → MM → Prop} : uNoPart ρ M QO = QO none M := rfl
theorem rd_cat {xs ys : List T} {Q : T → Prop} : sCat (.lst xs) (.lst ys) Q = (xs.length + ys.length ≤ sizeLine ∧ Q (.lst (xs ++ ys))) := propext ⟨fun ⟨_, _, e1, e2, h⟩ => by cases e1; cases e2; exact h, fun h => ⟨xs, ys, rfl, rfl, h⟩⟩
theorem rd_str {i j : Str} {Q : T → Prop} : sStr (.str i) (.str j) Q = (i.length + j.length ≤ sizeLine ∧ Q (.str (i ++ j))) := propext ⟨fun ⟨_, _, e1, e2, h⟩ => by cases e1; cases e2; exact h, fun h => ⟨i, j, rfl, rfl, h⟩⟩
/-! iterators -/
def itU (x : U) (us : List U) : UIt := ⟨us.length, fun M => itemsL M x = some us, fun i z => us[i]? = some z⟩
def IterS (M : MM) (x : U) (R : UIt → MM → Prop) : Prop := ∃ us, itemsL M x = some us ∧ R (itU x us) M
theorem rd_iter {R : UIt → MM → Prop} : uIter ua ρ M R = ua ρ M fun x M1 => IterS M1 x R := rfl
theorem rd_iterP {ts : List T} {R : UIt → MM → Prop} : IterS M (.p (.lst ts)) R = R (itU (.p (.lst ts)) (ts.map U.p)) M := propext ⟨fun ⟨_, e, h⟩ => by cases e; exact h, fun h => ⟨_, rfl, h⟩⟩
theorem iter_at {k : Nat} {us : List U} {R : UIt → MM → Prop} (e : M[k]? = some (.lst us)) (h : R (itU (.m k) us) M) : IterS M (.m k) R := ⟨us, by simp [itemsL, e], h⟩
def itR0 (n : Nat) : UIt := ⟨n, fun _ => True, fun i z => z = .p (.int i)⟩
def RngS (us : List U) (M : MM) (R : UIt → MM → Prop) : Prop := ∃ j : Int, us = [.p (.int j)] ∧ -(2 ^ 62) ≤ j ∧ j < 2 ^ 62 ∧ R (itR0 j.toNat) M
theorem rd_rng1 {R : UIt → MM → Prop} : uRng1 ul ρ M R = ul ρ M fun us M1 => RngS us M1 R := rfl
theorem rng_at {j : Int} {R : UIt → MM → Prop} (h1 : -(2 ^ 62) ≤ j) (h2 : j < 2 ^ 62) (q : R (itR0 j.toNat) M) : RngS [.p (.int j)] M R := ⟨j, rfl, h1, h2, q⟩
theorem ufor_list {ts : List T} {ub : US} (Iv : Nat → UEnv → MM → Prop) (h0 : Iv 0 ρ M) (hs : ∀ i t ρ2 M2, ts[i]? = some t → Iv i ρ2 M2 → ug (.p t) ρ2 M2 fun ρ3 M3 => ub { E with nx := Iv (i + 1), ct := Iv (i + 1), bk := E.nx } ρ3 M3) (hd : ∀ ρ2 M2, Iv ts.length ρ2 M2 → E.nx ρ2 M2) : UFor (itU (.p (.lst ts)) (ts.map U.p)) ug ub E ρ M := by
  refine ⟨Iv, h0, fun i ρ2 M2 hi h => ⟨rfl, fun u hu => ?_⟩, fun ρ2 M2 h => ⟨rfl, hd ρ2 M2 (by simpa [itU] using h)⟩⟩
  have hu : (ts.map U.p)[i]? = some u := hu
  rw [List.getElem?_map] at hu
  cases e : ts[i]? with
  | none => rw [e] at hu; cases hu
  | some t => rw [e] at hu; cases hu; exact hs i t ρ2 M2 e h
theorem ufor_rng {m : Nat} {ub : US} (Iv : Nat → UEnv → MM → Prop) (h0 : Iv 0 ρ M) (hs : ∀ (i : Nat) ρ2 M2, i < m → Iv i ρ2 M2 → ug (.p (.int i)) ρ2 M2 fun ρ3 M3 => ub { E with nx := Iv (i + 1), ct := Iv (i + 1), bk := E.nx } ρ3 M3) (hd : ∀ ρ2 M2, Iv m ρ2 M2 → E.nx ρ2 M2) : UFor (itR0 m) ug ub E ρ M :=
  ⟨Iv, h0, fun i ρ2 M2 hi h => ⟨trivial, fun u hu => by cases (show u = _ from hu); exact hs i ρ2 M2 hi h⟩, fun ρ2 M2 h => ⟨trivial, hd ρ2 M2 h⟩⟩
theorem ucomp_list {ts : List T} {ρ0 : UEnv} (hz : ts.length ≤ sizeLine) (Iv : Nat → List T → MM → Prop) (h0 : Iv 0 [] M) (hs : ∀ i t acc M2, ts[i]? = some t → acc.length ≤ i → Iv i acc M2 → ug (.p t) ρ0 M2 fun ρ4 M4 => ut ρ4 M4 fun b M5 => if b = true then ua ρ4 M5 fun z M6 => ∃ t, z = .p t ∧ Iv (i + 1) (acc ++ [t]) M6 else Iv (i + 1) acc M5) (hd : ∀ acc M2, Iv ts.length acc M2 → Q (.p (.lst acc)) M2) : UComp (itU (.p (.lst ts)) (ts.map U.p)) ug ut ua ρ0 M Q := by
  refine ⟨by simpa [itU] using hz, Iv, h0, fun i acc M2 hi ha h => ⟨rfl, fun u hu => ?_⟩, fun acc M2 h => ⟨rfl, hd acc M2 (by simpa [itU] using h)⟩⟩
  have hu : (ts.map U.p)[i]? = some u := hu
  rw [List.getElem?_map] at hu
  cases e : ts[i]? with
  | none => rw [e] at hu; cases hu
  | some t => rw [e] at hu; cases hu; exact hs i t acc M2 e ha h
theorem ucomp_rng {m : Nat} {ρ0 : UEnv} (hz : m ≤ sizeLine) (Iv : Nat → List T → MM → Prop) (h0 : Iv 0 [] M) (hs : ∀ (i : Nat) acc M2, i < m → acc.length ≤ i → Iv i acc M2 → ug (.p (.int i)) ρ0 M2 fun ρ4 M4 => ut ρ4 M4 fun b M5 => if b = true then ua ρ4 M5 fun z M6 => ∃ t, z = .p t ∧ Iv (i + 1) (acc ++ [t]) M6 else Iv (i + 1) acc M5) (hd : ∀ acc M2, Iv m acc M2 → Q (.p (.lst acc)) M2) : UComp (itR0 m) ug ut ua ρ0 M Q :=
  ⟨hz, Iv, h0, fun i acc M2 hi ha h => ⟨trivial, fun u hu => by cases (show u = _ from hu); exact hs i acc M2 hi ha h⟩, fun acc M2 h => ⟨trivial, hd acc M2 h⟩⟩
/-! tuples as targets -/
def T2S (M : MM) (u : U) (R : U → U → Prop) : Prop := ∃ a b, itemsT M u = some [a, b] ∧ R a b
def T3S (M : MM) (u : U) (R : U → U → U → Prop) : Prop := ∃ a b c, itemsT M u = some [a, b, c] ∧ R a b c
theorem rd_name2 {i j : Nat} {R : UEnv → MM → Prop} : uName2 i j u ρ M R = T2S M u fun a b => R ((ρ.set i (some a)).set j (some b)) M := rfl
theorem rd_name3 {i j k : Nat} {R : UEnv → MM → Prop} : uName3 i j k u ρ M R = T3S M u fun a b c => R (((ρ.set i (some a)).set j (some b)).set k (some c)) M := rfl
theorem rd_t2 {a b : T} {R : U → U → Prop} : T2S M (.p (.tup [a, b])) R = R (.p a) (.p b) := propext ⟨fun ⟨_, _, e, h⟩ => by cases e; exact h, fun h => ⟨_, _, rfl, h⟩⟩
theorem rd_t3 {a b c : T} {R : U → U → U → Prop} : T3S M (.p (.tup [a, b, c])) R = R (.p a) (.p b) (.p c) := propext ⟨fun ⟨_, _, _, e, h⟩ => by cases e; exact h, fun h => ⟨_, _, _, rfl, h⟩⟩
/-! calls -/
theorem rd_callP {G : List T → (T → Prop) → Prop} : uCallP G ul ρ M Q = ul ρ M fun us M1 => PurS us fun ts => G ts fun t => Q (.p t) M1 := rfl
theorem rd_callS {G : List T → (T → Prop) → Prop} : uCallS G ul ρ M Q = ul ρ M fun us M1 => SnsS M1 us fun ts => G ts fun t => (∃ x, vt t = some x) ∧ Q (.p t) M1 := rfl
theorem rd_callU {G : List U → MM → UK → Prop} : uCall G ul ρ M Q = ul ρ M fun us M1 => G us M1 Q := rfl
def MeS (s : List U → List U → (U → List U → Prop) → Prop) (ul : UA) (ρ : UEnv) (M : MM) (o : U) (Q : UK) : Prop := ∃ k, o = .m k ∧ (∃ zs, M[k]? = some (.lst zs)) ∧ ul ρ M fun ws M2 => ∃ us, M2[k]? = some (.lst us) ∧ s us ws fun z us' => Q z (M2.set k (.lst us'))
theorem rd_me {s : List U → List U → (U → List U → Prop) → Prop} : uMe s ua ul ρ M Q = ua ρ M fun o M1 => MeS s ul ρ M1 o Q := rfl
theorem me_at {s : List U → List U → (U → List U → Prop) → Prop} {k : Nat} {zs : List U} (e : M[k]? = some (.lst zs)) (h : ul ρ M fun ws M2 => ∃ us, M2[k]? = some (.lst us) ∧ s us ws fun z us' => Q z (M2.set k (.lst us'))) : MeS s ul ρ M (.m k) Q := ⟨k, rfl, ⟨zs, e⟩, h⟩
theorem rd_app {us : List U} {y : U} {Q : U → List U → Prop} : sAppend us [y] Q = (us.length < sizeLine ∧ Q (.p .non) (us ++ [y])) := propext ⟨fun ⟨_, e, h⟩ => by cases e; exact h, fun h => ⟨y, rfl, h⟩⟩
theorem ss {α : Type} {a : α} {R : α → Prop} : (∃ x, some a = some x ∧ R x) = R a := propext ⟨fun ⟨_, e, h⟩ => by cases e; exact h, fun h => ⟨a, rfl, h⟩⟩
end
end L2

namespace L2
open PySem PySem.Spec PyProof.Rows
/-! ### == of trees; what a def leaves of its own -/
inductive EqT : Nat → T → T → Bool → Prop
  | flat {n : Nat} {a b : T} {x y : V} : vt a = some x → vt b = some y → EqT n a b (eqV x y)
  | tup {n : Nat} {xs ys : List T} {e : Nat → Bool} : (∀ (j : Nat) x y, xs[j]? = some x → ys[j]? = some y → EqT n x y (e j)) → EqT (n + 1) (.tup xs) (.tup ys) ((List.range (min xs.length ys.length)).all e && xs.length == ys.length)
  | lst {n : Nat} {xs ys : List T} {e : Nat → Bool} : xs.length = ys.length → (∀ (j : Nat) x y, xs[j]? = some x → ys[j]? = some y → EqT n x y (e j)) → EqT (n + 1) (.lst xs) (.lst ys) ((List.range xs.length).all e)
  | lstN {n : Nat} {xs ys : List T} : xs.length ≠ ys.length → EqT (n + 1) (.lst xs) (.lst ys) false
section
variable {A : Addr → Prop} {H H' : Hp} {ι ι' : List Addr} {M M' : MM} {v : V} {u : U} {t : T} {K : PySem.W.Frag} {n : Nat}
theorem RepT.inj {a b : T} (r : RepT A H v a) : RepT A H v b → a = b := by
  induction r generalizing b with
  | non => intro q; cases q; rfl
  | bl => intro q; cases q; rfl
  | int => intro q; cases q; rfl
  | str => intro q; cases q; rfl
  | tup na e l r ih =>
    intro q
    cases q with
    | tup na' e' l' r' =>
      rw [e] at e'; cases e'
      congr 1
      refine List.ext_getElem (by omega) fun i h1 h2 => ?_
      have h3 := h1
      rw [← l] at h3
      exact ih i _ _ (List.getElem?_eq_getElem h3) (List.getElem?_eq_getElem h1) (r' i _ _ (List.getElem?_eq_getElem h3) (List.getElem?_eq_getElem h2))
    | lst na' e' l' r' => rw [e] at e'; cases e'
  | lst na e l r ih =>
    intro q
    cases q with
    | lst na' e' l' r' =>
      rw [e] at e'; cases e'
      congr 1
      refine List.ext_getElem (by omega) fun i h1 h2 => ?_
      have h3 := h1
      rw [← l] at h3
      exact ih i _ _ (List.getElem?_eq_getElem h3) (List.getElem?_eq_getElem h1) (r' i _ _ (List.getElem?_eq_getElem h3) (List.getElem?_eq_getElem h2))
    | tup na' e' l' r' => rw [e] at e'; cases e'
theorem eqV_self : ∀ {x : V} {t : T}, vt t = some x → eqV x x = true := fun {x t} h => by cases vt_rep h <;> simp [eqV]
theorem EqT.self {a b : T} {r : Bool} (h : EqT n a b r) : a = b → r = true := by
  induction h with
  | flat h1 h2 => intro e; subst e; rw [h1] at h2; cases h2; exact eqV_self h1
  | @tup n xs ys e hh ih =>
    intro q
    cases q
    simp only [Nat.min_self, beq_self_eq_true, Bool.and_true, List.all_eq_true, List.mem_range]
    intro j hj
    exact ih j _ _ (List.getElem?_eq_getElem hj) (List.getElem?_eq_getElem hj) rfl
  | @lst n xs ys e hl hh ih =>
    intro q
    cases q
    simp only [List.all_eq_true, List.mem_range]
    intro j hj
    exact ih j _ _ (List.getElem?_eq_getElem hj) (List.getElem?_eq_getElem hj) rfl
  | lstN hl => intro q; cases q; exact absurd rfl hl
theorem EqT.de {a b : T} {r : Bool} (h : EqT n a b r) : ∀ {x y : V}, RepT A H x a → RepT A H y b → DE K H n x y r := by
  induction h with
  | @flat n a b x0 y0 h1 h2 =>
    intro x y r1 r2
    cases (RepV.of r1).sc (y := .non) h1; cases (RepV.of r2).sc (y := .non) h2
    exact .flat (by cases vt_rep h1 <;> rfl) (by cases vt_rep h2 <;> rfl)
  | @tup n xs ys e hh ih =>
    intro x y r1 r2
    obtain ⟨p, vs, rfl, _, h1, q1⟩ := r1.tup_inv
    obtain ⟨p2, vs2, rfl, _, h2, q2⟩ := r2.tup_inv
    by_cases hp : p = p2
    · subst hp
      have := (EqT.tup (n := n) hh).self (r1.inj r2)
      rw [this]; exact .same
    · have := DE.tup (K := K) (H := H) (n := n) (e := e) hp (SqT.of h1) (SqT.of h2) fun j x y hx hy => by
        obtain ⟨a, ha, ra⟩ := Paired.getL q1 hx
        obtain ⟨b, hb, rb⟩ := Paired.getL q2 hy
        exact ih j a b ha hb ra rb
      rw [q1.len, q2.len] at this
      exact this
  | @lst n xs ys e hl hh ih =>
    intro x y r1 r2
    obtain ⟨p, vs, rfl, _, h1, q1⟩ := r1.lst_inv
    obtain ⟨p2, vs2, rfl, _, h2, q2⟩ := r2.lst_inv
    by_cases hp : p = p2
    · subst hp
      have := (EqT.lst (n := n) hl hh).self (r1.inj r2)
      rw [this]; exact .same
    · have := DE.lst (K := K) (H := H) (n := n) (e := e) hp (SqL.of h1) (SqL.of h2) (by rw [q1.len, q2.len, hl]) fun j x y hx hy => by
        obtain ⟨a, ha, ra⟩ := Paired.getL q1 hx
        obtain ⟨b, hb, rb⟩ := Paired.getL q2 hy
        exact ih j a b ha hb ra rb
      rw [q1.len] at this
      exact this
  | @lstN n xs ys hl =>
    intro x y r1 r2
    obtain ⟨p, vs, rfl, _, h1, q1⟩ := r1.lst_inv
    obtain ⟨p2, vs2, rfl, _, h2, q2⟩ := r2.lst_inv
    by_cases hp : p = p2
    · subst hp
      have := r1.inj r2
      cases this
      exact absurd rfl hl
    · exact .lstN hp (SqL.of h1) (SqL.of h2) (by rw [q1.len, q2.len]; exact hl)
def sEqL (neg : Bool) : T → T → (T → Prop) → Prop := fun a b Q => ∃ xs ys, a = .lst xs ∧ b = .lst ys ∧ ((xs.length ≠ ys.length ∧ Q (.bl neg)) ∨ (xs.length = ys.length ∧ ∃ e : Nat → Bool, (∀ (j : Nat) x y, xs[j]? = some x → ys[j]? = some y → EqT 20 x y (e j)) ∧ Q (.bl (if neg then !(List.range xs.length).all e else (List.range xs.length).all e))))
theorem opl_neL : OpL (rNeL K) (sEqL true) := fun A ι H M x y a b Qs Q w r1 r2 ⟨xs, ys, ea, eb, h⟩ k => by
  subst ea eb
  obtain ⟨p, vs, rfl, h1, q1⟩ := r1.lst_inv
  obtain ⟨p2, vs2, rfl, h2, q2⟩ := r2.lst_inv
  refine ⟨p, p2, vs, vs2, rfl, rfl, SqL.of h1, SqL.of h2, ?_⟩
  rcases h with ⟨hl, q⟩ | ⟨hl, e, he, q⟩
  · exact .inl ⟨by rw [q1.len, q2.len]; exact hl, k _ ι _ H (.refl _ _) w (.bl _) q⟩
  · refine .inr ⟨by rw [q1.len, q2.len]; exact hl, e, fun j x y hx hy => ?_, by rw [q1.len]; exact k _ ι _ H (.refl _ _) w (.bl _) q⟩
    obtain ⟨a, ha, ra⟩ := Paired.getL q1 hx
    obtain ⟨b, hb, rb⟩ := Paired.getL q2 hy
    exact (he j a b ha hb).de ra rb
abbrev intsT (ns : List Int) : T := .lst (ns.map T.int)
def sRep : T → T → (T → Prop) → Prop := fun a b Q => ∃ xs k, a = .lst xs ∧ b = .int k ∧ -(2 ^ 63) ≤ k ∧ k < 2 ^ 63 ∧ xs.length * k.toNat ≤ sizeLine ∧ Q (.lst (List.replicate k.toNat xs).flatten)
theorem opl_rep : OpL rRep sRep := fun A ι H M x y a b Qs Q w r1 r2 ⟨xs, kk, ea, eb, k0, k1, hz, q⟩ k => by
  subst ea eb
  obtain ⟨p, vs, rfl, h1, q1⟩ := r1.lst_inv
  cases r2.int_inv
  exact ⟨p, kk, vs, rfl, rfl, h1, k0, k1, by rw [q1.len]; exact hz, fun l hl => k _ ι _ _ (.fresh hl) (w.fresh hl) (fresh_lst w hl (paired_rep q1 _)) q⟩
/-! what is left behind a def: its own things go -/
def frzB (b : Nat) : Nat → MM → U → Option T
  | _, _, .p t => some t
  | 0, _, .m _ => none
  | n + 1, M, .m k => if b ≤ k then match M[k]? with
    | some (.lst us) => (frzs (frzB b n M) us).map T.lst
    | some (.tup us) => (frzs (frzB b n M) us).map T.tup
    | _ => none else none
@[simp] theorem frzB_p {b n : Nat} {M : MM} {t : T} : frzB b n M (.p t) = some t := by cases n <;> rfl
theorem frzs_rep2 {A' : Addr → Prop} {f : U → Option T} {vs : List V} {us : List U} {ts : List T} (r : RepUs A ι H vs us) (h : ∀ v u t, RepU A ι H v u → f u = some t → RepT A' H v t) (e : frzs f us = some ts) : RepTs A' H vs ts := by
  induction r generalizing ts with
  | nil => simp [frzs] at e; subst e; exact .nil
  | cons r q ih =>
    simp only [frzs] at e
    split at e
    · rename_i h1 h2
      simp at e; subst e
      exact .cons (h _ _ _ r h1) (ih h2)
    · cases e
theorem frzB_rep {m : List Addr} (w : Wd A (ι ++ m) H M) : ∀ {n : Nat} {v : V} {u : U} {t : T}, RepU A (ι ++ m) H v u → frzB ι.length n M u = some t → RepT (Av A ι) H v t
  | n, v, .p t', t, .p r, e => by
    rw [frzB_p] at e; cases e
    exact r.mono fun x o hx ex => ⟨ex, fun z => hx (z.elim .inl fun z => .inr (List.mem_append_left _ z))⟩
  | 0, v, .m k, t, r, e => by simp [frzB] at e
  | n + 1, v, .m k, t, r, e => by
    cases r with
    | m q =>
    rename_i a
    obtain ⟨o, h1, h2⟩ := w.al q
    simp only [frzB, h1] at e
    split at e
    · rename_i hk
      have hna : ¬ Av A ι a := fun z => by
        rcases z with z | z
        · exact w.na _ (List.mem_of_getElem? q) z
        · rw [List.getElem?_append_right hk] at q
          have hd := (List.nodup_append.mp w.nd).2.2
          exact hd a z a (List.mem_of_getElem? q) rfl
      cases o with
      | lst us =>
        simp at e
        obtain ⟨ts, e1, rfl⟩ := e
        obtain ⟨vs, h3, h4⟩ := h2
        exact .lstP hna h3 (frzs_rep2 h4 (fun v u t r e => frzB_rep w r e) e1)
      | tup us =>
        simp at e
        obtain ⟨ts, e1, rfl⟩ := e
        obtain ⟨vs, h3, h4⟩ := h2
        exact .tupP hna h3 (frzs_rep2 h4 (fun v u t r e => frzB_rep w r e) e1)
      | ins => simp at e
      | dK => simp at e
    · cases e
def PurO (o : MO) : Prop := ∃ ts : List T, o = .lst (ts.map U.p)
def TrimOk (M M' : MM) : Prop := ∀ (i : Nat) o, i < M.length → M'[i]? = some o → M[i]? = some o ∨ PurO o
theorem RepU.less {m : List Addr} {v0 : V} {H0 : Hp} (r : RepU A (ι ++ m) H v u) (r0 : RepU A ι H0 v0 u) : RepU A ι H v u := by
  cases r with
  | p r => exact .p (r.mono fun x o hx ex => ⟨ex, fun z => hx (z.elim .inl fun z => .inr (List.mem_append_left _ z))⟩)
  | m e =>
    cases r0 with
    | m e0 =>
      rw [List.getElem?_append_left (List.getElem?_eq_some_iff.mp e0).1] at e
      exact .m e
theorem paired_less {α β : Type} {F G L : α → β → Prop} (h : ∀ a a0 b, F a b → G a0 b → L a b) : ∀ {l l0 : List α} {r : List β}, Paired F l r → Paired G l0 r → Paired L l r
  | _, _, _, .nil, .nil => .nil
  | _, _, _, .cons p q, .cons p0 q0 => .cons (h _ _ _ p p0) (paired_less h q q0)
theorem ObjR.less {m : List Addr} {a a0 : Addr} {o : MO} {H0 : Hp} (r : ObjR A (ι ++ m) H a o) (r0 : ObjR A ι H0 a0 o) : ObjR A ι H a o := by
  cases o with
  | lst => obtain ⟨vs, e, r⟩ := r; obtain ⟨_, _, r0⟩ := r0; exact ⟨vs, e, paired_less (fun _ _ _ p q => p.less q) r r0⟩
  | tup => obtain ⟨vs, e, r⟩ := r; obtain ⟨_, _, r0⟩ := r0; exact ⟨vs, e, paired_less (fun _ _ _ p q => p.less q) r r0⟩
  | ins => obtain ⟨dx, gs, e, ed, nd, r⟩ := r; obtain ⟨_, _, _, _, _, r0⟩ := r0; exact ⟨dx, gs, e, ed, fun z => nd (List.mem_append_left _ z), paired_less (fun _ _ _ p q => ⟨p.1, p.2.less q.2⟩) r r0⟩
  | dK => obtain ⟨gs, e, r⟩ := r; obtain ⟨_, _, r0⟩ := r0; exact ⟨gs, e, paired_less (fun _ _ _ p q => ⟨p.1, p.2.less q.2⟩) r r0⟩
theorem Wd.trim {m : List Addr} {H0 : Hp} (w : Wd A (ι ++ m) H M') (w0 : Wd A ι H0 M) (h : TrimOk M M') : Wd A ι H (M'.take M.length) := by
  have hl : M.length ≤ M'.length := by
    have := w.len; rw [List.length_append, w0.len] at this; omega
  refine ⟨(List.nodup_append.mp w.nd).1, by rw [List.length_take, Nat.min_eq_left hl]; exact w0.len, w.dom, fun x hx => w.na x (List.mem_append_left _ hx), fun k a o e1 e2 => ?_⟩
  have hk := (List.getElem?_eq_some_iff.mp e1).1
  rw [List.getElem?_take_of_lt (by rw [← w0.len]; exact hk)] at e2
  have r := w.obj k a o (by rw [List.getElem?_append_left hk]; exact e1) e2
  rcases h k o (by rw [← w0.len]; exact hk) e2 with z | ⟨ts, rfl⟩
  · exact r.less (w0.obj k a o e1 z)
  · obtain ⟨vs, e, q⟩ := r
    refine ⟨vs, e, ?_⟩
    have q2 := q.pures
    exact RepTs.ups (Paired.mapP q2 fun _ _ q => q.mono fun x o hx ex => ⟨ex, fun z => hx (z.elim .inl fun z => .inr (List.mem_append_left _ z))⟩)
end
section
variable {P : Program} {w : World} {K : PySem.W.Frag} {mg : Str → Option Value} {base : Heap}
/-- as okU; the things of its own go -/
theorem Fun.okV {x qual : Str} {st : Stmt} {f : Addr} {fd : FuncData} {N ps : List Str} {k : Nat} {G : List U → MM → UK → Prop} (F : Fun K x qual st f fd) (S : FnScope N ps (defScope st)) (len : ∀ us M Qu, G us M Qu → us.length = ps.length)
    (hbody : ∀ (cdv : Value) (A : Around) (outer : List Env) (s : Shared) (H : Hp) (E : XK), Room k (A.deeper (envOfC qual (defScope st) s.heap.objs.size f cdv)) →
      ∃ t, PSs (cxOf CX0 P w K mg base N qual (defScope st) f cdv A outer s H E).nox (defBody st) t ∧ ∃ u, LS t u ∧ ∀ us M Qu, G us M Qu → u { nx := fun _ M' => TrimOk M M' ∧ Qu (.p .non) (M'.take M.length), rt := fun z M' => TrimOk M M' ∧ ∃ t, frzB M.length 4 M' z = some t ∧ Qu (.p t) (M'.take M.length) } (startU N us) M) : FnOk P w K mg base CX0 (k + 1) f fd ps (spU G) := by
  refine F.ok S (fun vs H Q E h => ?_) (fun cdv A outer s H vs Q E hr h => ?_)
  · obtain ⟨A, ι, M, us, Qu, w1, r, g, _⟩ := h
    rw [r.len]; exact len us M Qu g
  · obtain ⟨B, ι, M, us, Qu, w1, r, g, kk⟩ := h
    obtain ⟨t, ht, u, hu, hb⟩ := hbody cdv A outer s H E hr
    have less : ∀ {ι1 : List Addr} {H1 : Hp}, Le ι H ι1 H1 → Le ι H ι H1 := fun l => ⟨⟨[], by simp, by simp⟩, l.fr, l.al⟩
    refine ⟨t, ht, hu B ι _ H _ M _ { nx := fun _ M' => TrimOk M M' ∧ Qu (.p .non) (M'.take M.length), rt := fun z M' => TrimOk M M' ∧ ∃ t, frzB M.length 4 M' z = some t ∧ Qu (.p t) (M'.take M.length) } w1 (start_rep r) ⟨fun ι1 σ1 H1 ρ1 M1 l1 w2 e1 q1 => ?_, fun ι1 v H1 z M1 l1 w2 r1 q1 => ?_, fun _ _ _ _ _ _ _ _ q => q.elim, fun _ _ _ _ _ _ _ _ q => q.elim⟩ (hb us M Qu g)⟩
    · obtain ⟨tr, q⟩ := q1
      obtain ⟨m, rfl, _⟩ := id l1.ext
      exact kk _ _ ι _ H1 (less l1) (w2.trim w1 tr) (.p .non) q
    · obtain ⟨tr, t1, et, q⟩ := q1
      obtain ⟨m, rfl, _⟩ := id l1.ext
      rw [← w1.len] at et
      exact kk _ _ ι v H1 (less l1) (w2.trim w1 tr) (.p (frzB_rep w2 r1 et)) q
end
end L2

namespace L2
open PySem PySem.Spec PyProof.Rows
/-! ### dicts of ints and texts, remove -/
section
variable {te ta tb tc : TE} {ue ua ub uc : UE} {tl : TA} {ul : UA} {n : Nat} {A : Addr → Prop} {H H' : Hp} {ι ι' : List Addr} {M M' : MM} {v : V} {u : U} {t : T} {σ : St} {ρ : UEnv} {K : PySem.W.Frag}
def keyU : Key → U
  | .inl i => .p (.int i)
  | .inr x => .p (.str x)
def valU (kvs : List (Key × U)) (k : Key) : Option U := (kvs.find? fun kv => decide (kv.1 = k)).map (·.2)
def putU (kvs : List (Key × U)) (k : Key) (y : U) : List (Key × U) := if kvs.any (fun kv => decide (kv.1 = k)) then kvs.map (fun kv => if kv.1 = k then (kv.1, y) else kv) else kvs ++ [(k, y)]
def mergeU (kvs more : List (Key × U)) : List (Key × U) := more.foldl (fun acc kv => putU acc kv.1 kv.2) kvs
abbrev KR (A : Addr → Prop) (ι : List Addr) (H : Hp) : List (Key × V) → List (Key × U) → Prop := Paired fun (g : Key × V) (f : Key × U) => g.1 = f.1 ∧ RepU A ι H g.2 f.2
theorem val_rep {gs : List (Key × V)} {kvs : List (Key × U)} {k : Key} (r : KR A ι H gs kvs) : match valU kvs k with | some u => ∃ v, valV gs k = some v ∧ RepU A ι H v u | none => valV gs k = none := by
  induction r with
  | nil => rfl
  | @cons g f gs kvs p q ih =>
    obtain ⟨e, r⟩ := p
    unfold valU valV at ih ⊢
    simp only [List.find?_cons]
    by_cases h : f.1 = k
    · rw [e]
      simp only [h, decide_true]
      exact ⟨_, rfl, r⟩
    · rw [e]
      simp only [h, decide_false]
      exact ih
theorem any_rep {gs : List (Key × V)} {kvs : List (Key × U)} {k : Key} (r : KR A ι H gs kvs) : (gs.any fun kv => decide (kv.1 = k)) = (kvs.any fun kv => decide (kv.1 = k)) := by
  induction r with
  | nil => rfl
  | cons p q ih => rw [List.any_cons, List.any_cons, ih, p.1]
theorem map_put_rep {gs : List (Key × V)} {kvs : List (Key × U)} {k : Key} (r : KR A ι H gs kvs) (rv : RepU A ι H v u) : KR A ι H (gs.map fun kv => if kv.1 = k then (kv.1, v) else kv) (kvs.map fun kv => if kv.1 = k then (kv.1, u) else kv) := by
  induction r with
  | nil => exact .nil
  | @cons g f gs kvs p q ih =>
    refine .cons ?_ ih
    show (if g.1 = k then (g.1, v) else g).1 = (if f.1 = k then (f.1, u) else f).1 ∧ RepU A ι H (if g.1 = k then (g.1, v) else g).2 (if f.1 = k then (f.1, u) else f).2
    by_cases h : f.1 = k
    · rw [if_pos h, if_pos (p.1.trans h)]; exact ⟨p.1, rv⟩
    · rw [if_neg h, if_neg (fun z => h (p.1.symm.trans z))]; exact p
theorem put_rep {gs : List (Key × V)} {kvs : List (Key × U)} {k : Key} (r : KR A ι H gs kvs) (rv : RepU A ι H v u) : KR A ι H (putK gs k v) (putU kvs k u) := by
  unfold putK putU
  rw [any_rep r]
  split
  · exact map_put_rep r rv
  · exact r.app (.cons ⟨rfl, rv⟩ .nil)
theorem merge_rep {more : List (Key × V)} {moreU : List (Key × U)} (q : KR A ι H more moreU) : ∀ {gs : List (Key × V)} {kvs : List (Key × U)}, KR A ι H gs kvs → KR A ι H (mergeK gs more) (mergeU kvs moreU) := by
  unfold mergeK mergeU
  induction q with
  | nil => intro gs kvs r; exact r
  | cons p q ih =>
    intro gs kvs r
    rw [List.foldl_cons, List.foldl_cons, p.1]
    exact ih (put_rep r p.2)
inductive LPs : List (TE × TE) → List (UE × UE) → Prop
  | nil : LPs [] []
  | cons {tk tv : TE} {uk uv : UE} {ts : List (TE × TE)} {us : List (UE × UE)} : LE tk uk → LE tv uv → LPs ts us → LPs ((tk, tv) :: ts) ((uk, uv) :: us)
def uPairs : List (UE × UE) → UEnv → MM → (List (U × U) → MM → Prop) → Prop
  | [], _, M, Q => Q [] M
  | (k, v) :: r, ρ, M, Q => k ρ M fun x M1 => v ρ M1 fun y M2 => uPairs r ρ M2 fun ps M3 => Q ((x, y) :: ps) M3
theorem lps_run {trs : List (TE × TE)} {urs : List (UE × UE)} (h : LPs trs urs) : ∀ (A : Addr → Prop) (ι : List Addr) (σ : St) (H : Hp) (ρ : UEnv) (M : MM) (Qu : List (U × U) → MM → Prop) (Q : List (V × V) → Hp → Prop), Wd A ι H M → EnvR A ι H σ ρ → uPairs urs ρ M Qu →
    (∀ us M' ι' vs H', Le ι H ι' H' → Wd A ι' H' M' → Paired (fun (x : V × V) (y : U × U) => RepU A ι' H' x.1 y.1 ∧ RepU A ι' H' x.2 y.2) vs us → Qu us M' → Q vs H') → tPairs trs σ H Q := by
  induction h with
  | nil => intro A ι σ H ρ M Qu Q w e q k; exact k [] M ι [] H (.refl _ _) w .nil q
  | cons h1 h2 h3 ih =>
    intro A ι σ H ρ M Qu Q w e q k
    refine h1 A ι σ H ρ M _ _ w e q fun x M1 ι1 v1 H1 l1 w1 r1 q1 => ?_
    refine h2 A ι1 σ H1 ρ M1 _ _ w1 (e.le l1) q1 fun y M2 ι2 v2 H2 l2 w2 r2 q2 => ?_
    refine ih A ι2 σ H2 ρ M2 _ _ w2 (e.le (l1.trans l2)) q2 fun us M3 ι3 vs H3 l3 w3 r3 q3 => ?_
    exact k _ M3 ι3 _ H3 ((l1.trans l2).trans l3) w3 (.cons ⟨(r1.le l2).le l3, r2.le l3⟩ r3) q3
def uDisp (urs : List (UE × UE)) : UE := fun ρ M Q => uPairs urs ρ (M ++ [.dK []]) fun ps M2 => M2[M.length]? = some (.dK []) ∧ ∃ kvs : List (Key × U), ps = kvs.map (fun kv => (keyU kv.1, kv.2)) ∧ kvs.length ≤ 15 ∧ Q (.m M.length) (M2.set M.length (.dK (mergeU [] kvs)))
theorem key_rep {k : Key} (r : RepU A ι H v (keyU k)) : v = kV k := by
  cases k with
  | inl i => cases r with | p r => cases r; rfl
  | inr x => cases r with | p r => cases r; rfl
theorem kvs_rep : ∀ {kvs : List (Key × U)} {vs : List (V × V)}, Paired (fun (x : V × V) (y : U × U) => RepU A ι H x.1 y.1 ∧ RepU A ι H x.2 y.2) vs (kvs.map fun kv => (keyU kv.1, kv.2)) → ∃ gs : List (Key × V), vs = gs.map (fun kv => (kV kv.1, kv.2)) ∧ KR A ι H gs kvs
  | [], _, .nil => ⟨[], rfl, .nil⟩
  | kv :: kvs, (a, b) :: _, .cons p q => by
    obtain ⟨gs, rfl, r⟩ := kvs_rep (kvs := kvs) q
    refine ⟨(kv.1, b) :: gs, ?_, .cons ⟨rfl, p.2⟩ r⟩
    rw [List.map_cons]
    have := key_rep p.1
    simp only at this
    rw [this]
theorem le_disp {trs : List (TE × TE)} {urs : List (UE × UE)} (h : LPs trs urs) : LE (tDisp trs) (uDisp urs) := by
  intro A ι σ H ρ M Qu Q w e q k p hp
  have w1 : Wd A (ι ++ [p]) (upd H p (.dK [])) (M ++ [.dK []]) := w.push hp ⟨[], upd_same, .nil⟩
  have l1 : Le ι H (ι ++ [p]) (upd H p (.dK [])) := .push hp
  refine lps_run h A _ σ _ ρ _ _ _ w1 (e.le l1) q fun us M2 ι2 vs H2 l2 w2 r2 q2 => ?_
  obtain ⟨hm, kvs, rfl, hl, q2⟩ := q2
  have ep : ι2[M.length]? = some p := by
    obtain ⟨nn, rfl, _⟩ := l2.ext
    rw [List.getElem?_append_left (by rw [List.length_append, w.len]; simp), ← w.len]
    exact get_last
  obtain ⟨gs0, h1, h2⟩ := w2.obj _ p _ ep hm
  cases h2
  obtain ⟨gs, rfl, rk⟩ := kvs_rep r2
  have hmem := List.mem_of_getElem? ep
  refine ⟨h1, gs, rfl, by rw [rk.len]; exact hl, k _ _ ι2 _ _ ((l1.trans l2).trans (.put hmem)) (w2.put (mo := .dK (mergeU [] kvs)) ep ⟨_, upd_same, ?_⟩) (.m ep) q2⟩
  exact Paired.mapP (merge_rep rk .nil) fun _ _ q => ⟨q.1, q.2.le (.put hmem)⟩
def DGetS (M : MM) (x y : U) (Q : UK) : Prop := ∃ k kvs key w, x = .m k ∧ M[k]? = some (.dK kvs) ∧ y = keyU key ∧ valU kvs key = some w ∧ Q w M
def uDGet (ua ub : UE) : UE := fun ρ M Q => ua ρ M fun x M1 => ub ρ M1 fun y M2 => DGetS M2 x y Q
theorem le_dget (ha : LE ta ua) (hb : LE tb ub) : LE (tDGet ta tb) (uDGet ua ub) := fun A ι σ H ρ M Qu Q w e q k =>
  ha A ι σ H ρ M _ _ w e q fun x M1 ι1 v H1 l1 w1 r1 q1 => hb A ι1 σ H1 ρ M1 _ _ w1 (e.le l1) q1 fun y M2 ι2 v2 H2 l2 w2 r2 ⟨kk, kvs, key, z, ex, em, ey, ez, q2⟩ => by
    subst ex ey
    have r1' := r1.le l2
    cases r1' with
    | m ek =>
    obtain ⟨gs, h1, h2⟩ := w2.obj kk _ _ ek em
    have hv := val_rep (k := key) h2
    rw [ez] at hv
    obtain ⟨x', hx, rx⟩ := hv
    refine ⟨_, x', rfl, ?_, k z M2 ι2 x' H2 (l1.trans l2) w2 rx q2⟩
    have := DGet.k (k := key) h1
    rw [hx] at this
    rw [key_rep r2]
    exact this
theorem rd_dget {Q : UK} : uDGet ua ub ρ M Q = ua ρ M fun x M1 => ub ρ M1 fun y M2 => DGetS M2 x y Q := rfl
theorem dgetS_at {k : Nat} {kvs : List (Key × U)} {x : Str} {w : U} {Q : UK} (h1 : M[k]? = some (.dK kvs)) (h2 : valU kvs (.inr x) = some w) (q : Q w M) : DGetS M (.m k) (.p (.str x)) Q := ⟨k, kvs, .inr x, w, rfl, h1, rfl, h2, q⟩
theorem LA.imp {n : Nat} {ta : TA} {ua ua' : UA} (h : LA n ta ua) (k : ∀ ρ M Q, ua' ρ M Q → ua ρ M Q) : LA n ta ua' := fun A ι σ H ρ M Qu Q w e q kk => h A ι σ H ρ M Qu Q w e (k _ _ _ q) kk
theorem LE.imp {te : TE} {ue ue' : UE} (h : LE te ue) (k : ∀ ρ M Q, ue' ρ M Q → ue ρ M Q) : LE te ue' := fun A ι σ H ρ M Qu Q w e q kk => h A ι σ H ρ M Qu Q w e (k _ _ _ q) kk
def uIfC (c : UT) (t1 t2 : T) : UE := fun ρ M Q => c ρ M fun b M1 => Q (.p (if b = true then t1 else t2)) M1
theorem iteT_int {c : Prop} [Decidable c] {a b : Int} : (if c then T.int a else T.int b) = T.int (if c then a else b) := by split <;> rfl
theorem iteT_str {c : Prop} [Decidable c] {a b : Str} : (if c then T.str a else T.str b) = T.str (if c then a else b) := by split <;> rfl
def itV (x : U) (us : List U) : UIt := ⟨us.length, fun M => itemsL M x = some us, fun i z => us[us.length - 1 - i]? = some z⟩
def RevS (us : List U) (M : MM) (R : UIt → MM → Prop) : Prop := ∃ x ys, us = [x] ∧ itemsL M x = some ys ∧ R (itV x ys) M
theorem rd_rev {R : UIt → MM → Prop} : uRev ul ρ M R = ul ρ M fun us M1 => RevS us M1 R := rfl
theorem rd_revP {ts : List T} {R : UIt → MM → Prop} : RevS [.p (.lst ts)] M R = R (itV (.p (.lst ts)) (ts.map U.p)) M := propext ⟨fun ⟨_, _, e1, e2, h⟩ => by cases e1; cases e2; exact h, fun h => ⟨_, _, rfl, rfl, h⟩⟩
theorem rd_ch {s' : T → T → (T → Prop) → Prop} {y : U} {b : Bool} {Q : UK} : ChS s' uc ρ M y Q (.bl b) = if b = true then uc ρ M fun c M3 => OpS s' M3 y c Q else Q (.p (.bl false)) M :=
  propext ⟨fun ⟨k, e, h⟩ => by cases e; exact h, fun h => ⟨b, rfl, h⟩⟩
/-! remove -/
def sRemove : List U → List U → (U → List U → Prop) → Prop := fun us ws Q => ∃ (ts : List T) (y : T) (j : Nat) (e : Nat → Bool), us = ts.map U.p ∧ ws = [.p y] ∧ j < ts.length ∧ e j = true ∧ (∀ m, m < j → e m = false) ∧ (∀ (m : Nat) z, m ≤ j → ts[m]? = some z → EqT 20 z y (e m)) ∧ Q (.p .non) ((ts.eraseIdx j).map U.p)
theorem map_erase {α β : Type} (f : α → β) : ∀ (l : List α) (j : Nat), (l.eraseIdx j).map f = (l.map f).eraseIdx j
  | [], _ => rfl
  | _ :: _, 0 => rfl
  | x :: l, j + 1 => by rw [List.eraseIdx_cons_succ, List.map_cons, List.map_cons, List.eraseIdx_cons_succ, map_erase f l j]
theorem mel_remove : MeL (rRemove K) sRemove := fun A ι H M k a xs ys us ws Qs Q w ek h1 h2 rx ry ⟨ts, y, j, e, eu, ew, hj, hjt, hjf, hd, q⟩ kk => by
  subst eu ew
  cases ry with
  | cons r q' =>
  cases q'
  cases r with
  | p r =>
  have rp := rx.pures
  refine ⟨a, xs, _, j, e, rfl, rfl, h1, by rw [rp.len]; exact hj, hjt, hjf, fun m z hm hz => ?_, kk _ _ _ _ (RepTs.ups (rp.erase j)) (.p .non) q⟩
  obtain ⟨b, hb, rb⟩ := Paired.getL rp hz
  exact (hd m b hm hb).de rb r
end
end L2

namespace L2
open PySem PySem.Spec PyProof.Rows
/-! ### tuples of the module, isinstance, == of tuples -/
section
variable {te ta tb tc : TE} {ue ua ub uc : UE} {tl : TA} {ul : UA} {n : Nat} {A : Addr → Prop} {H H' : Hp} {ι ι' : List Addr} {M M' : MM} {v : V} {u : U} {t : T} {σ : St} {ρ : UEnv} {K : PySem.W.Frag}
def KTu (K : PySem.W.Frag) (p : Addr) (vs : List V) : Prop := ∀ H, SqT K H p vs
theorem Tup3.kt {mg : Str → Option Value} {nm : Str} {p : Addr} {x y z : Str} (T3 : Tup3 K mg nm p x y z) : KTu K p [.str x, .str y, .str z] := T3.sq
theorem atI_pair {α β : Type} {F : α → β → Prop} {vs : List α} {ts : List β} {i : Int} {z : β} (r : Paired F vs ts) (e : atI ts i = some z) : ∃ x, atI vs i = some x ∧ F x z := by
  unfold atI at e ⊢
  rw [r.len]
  cases q : ixN ts.length i with
  | none => rw [q] at e; cases e
  | some j =>
    rw [q] at e
    exact Paired.getR r e
/-- texts of the module's tuple -/
theorem scs_str : ∀ xs : List Str, Paired Sc (xs.map V.str) (xs.map T.str)
  | [] => .nil
  | x :: xs => .cons (.str x) (scs_str xs)
def uIxK (ts : List T) (ub : UE) : UE := fun ρ M Q => ub ρ M fun y M1 => IntS y fun i => ∃ t, atI ts i = some t ∧ Q (.p t) M1
theorem le_ixK {p : Addr} {vs : List V} {ts : List T} (h : KTu K p vs) (hs : Paired Sc vs ts) (hb : LE tb ub) : LE (tOp (rIxT K) (tC (.ref p)) tb) (uIxK ts ub) := fun A ι σ H ρ M Qu Q w e q k =>
  hb A ι σ H ρ M _ _ w e q fun y M1 ι1 v1 H1 l1 w1 r1 ⟨i, ey, t, et, q1⟩ => by
    subst ey
    cases r1 with
    | p r =>
    cases r
    obtain ⟨x, hx, sx⟩ := atI_pair hs et
    exact ⟨p, vs, i, x, rfl, rfl, h H1, hx, k _ M1 ι1 x H1 l1 w1 (.p sx.rep) q1⟩
def uInK (neg : Bool) (vs : List V) (ua : UE) : UE := fun ρ M Q => ua ρ M fun x M1 => ∃ a, x = .p a ∧ ∃ y, vt a = some y ∧ Q (.p (.bl (if neg then !inV y vs else inV y vs))) M1
theorem le_lenK {p : Addr} {vs : List V} (h : KTu K p vs) : LE (tCB (rLenA K) (tCons (tC (.ref p)) tNil)) (uC (.int vs.length)) := fun A ι σ H ρ M Qu Q w e q k =>
  ⟨p, vs, rfl, .inr (h H), k _ M ι _ H (.refl _ _) w (.p (.int _)) q⟩
/-! isinstance -/
inductive TyC where
  | int | bool | str | list | tuple
def TyC.name : TyC → String
  | .int => "int" | .bool => "bool" | .str => "str" | .list => "list" | .tuple => "tuple"
def isT : T → TyC → Bool
  | .int _, .int => true
  | .bl _, .int => true
  | .bl _, .bool => true
  | .str _, .str => true
  | .lst _, .list => true
  | .tup _, .tuple => true
  | _, _ => false
def isU (M : MM) : U → TyC → Option Bool
  | .p t, c => some (isT t c)
  | .m k, c => match M[k]? with
    | some (.lst _) => some (isT (.lst []) c)
    | some (.tup _) => some (isT (.tup []) c)
    | _ => none
theorem isi_rep {c : TyC} {b : Bool} (w : Wd A ι H M) (r : RepU A ι H v u) (e : isU M u c = some b) : ∃ t, TyOf K H v (.type t) ∧ PySem.W.kitOne K (.type t) (.type c.name) = some b := by
  cases r with
  | p r =>
    simp only [isU, Option.some.injEq] at e
    subst e
    cases r with
    | non => exact ⟨_, .non, by cases c <;> rfl⟩
    | bl b => exact ⟨_, .bl b, by cases c <;> rfl⟩
    | int i => exact ⟨_, .int i, by cases c <;> rfl⟩
    | str x => exact ⟨_, .str x, by cases c <;> rfl⟩
    | tup na e l r => exact ⟨_, .tup e, by cases c <;> rfl⟩
    | lst na e l r => exact ⟨_, .lst e, by cases c <;> rfl⟩
  | m q =>
    obtain ⟨o, h1, h2⟩ := w.al q
    simp only [isU, h1] at e
    cases o with
    | lst us => simp only [Option.some.injEq] at e; subst e; obtain ⟨vs, h3, _⟩ := h2; exact ⟨_, .lst h3, by cases c <;> rfl⟩
    | tup us => simp only [Option.some.injEq] at e; subst e; obtain ⟨vs, h3, _⟩ := h2; exact ⟨_, .tup h3, by cases c <;> rfl⟩
    | ins => simp at e
    | dK => simp at e
def uIsi (c : TyC) (ua : UE) : UE := fun ρ M Q => ua ρ M fun x M1 => ∃ b, isU M1 x c = some b ∧ Q (.p (.bl b)) M1
theorem le_isi (c : TyC) (ha : LE ta ua) : LE (tCB (rIsi K) (tCons ta (tCons (tC (.ty c.name)) tNil))) (uIsi c ua) := fun A ι σ H ρ M Qu Q w e q k =>
  ha A ι σ H ρ M _ _ w e q fun x M1 ι1 v1 H1 l1 w1 r1 ⟨b, eb, q1⟩ => by
    obtain ⟨t, h1, h2⟩ := isi_rep (K := K) w1 r1 eb
    exact ⟨v1, c.name, t, b, rfl, h1, h2, k _ M1 ι1 _ H1 l1 w1 (.p (.bl _)) q1⟩
def uIsi2 (c d : TyC) (ua : UE) : UE := fun ρ M Q => ua ρ M fun x M1 => ∃ b, isU M1 x c = some b ∧ ∃ b', isU M1 x d = some b' ∧ Q (.p (.bl (b || b'))) M1
/-! dicts: new, in, put -/
def uDNew : UE := fun _ M Q => Q (.m M.length) (M ++ [.dK []])
theorem le_dnew : LE tDNewK uDNew := fun A ι σ H ρ M Qu Q w e q k p hp =>
  k _ _ (ι ++ [p]) _ _ (.push hp) (w.push (mo := .dK []) hp ⟨[], upd_same, .nil⟩) (.m (by rw [← w.len]; exact get_last)) q
def DInS (neg : Bool) (M : MM) (y x : U) (Q : UK) : Prop := ∃ k kvs key, x = .m k ∧ M[k]? = some (.dK kvs) ∧ y = keyU key ∧ Q (.p (.bl (if neg then !(valU kvs key).isSome else (valU kvs key).isSome))) M
def uDIn (neg : Bool) (ua ub : UE) : UE := fun ρ M Q => ua ρ M fun y M1 => ub ρ M1 fun x M2 => DInS neg M2 y x Q
theorem dget_rep {k : Nat} {a : Addr} {kvs : List (Key × U)} {key : Key} {y : V} (w : Wd A ι H M) (ek : ι[k]? = some a) (em : M[k]? = some (.dK kvs)) (ry : RepU A ι H y (keyU key)) : ∃ o, DGet H a y o ∧ o.isSome = (valU kvs key).isSome := by
  obtain ⟨gs, h1, h2⟩ := w.obj k a _ ek em
  have hv := val_rep (k := key) h2
  have := DGet.k (k := key) h1
  rw [← key_rep ry] at this
  refine ⟨_, this, ?_⟩
  cases e : valU kvs key with
  | none => rw [e] at hv; simp only at hv; rw [hv]; rfl
  | some u => rw [e] at hv; obtain ⟨x, hx, _⟩ := hv; rw [hx]; rfl
theorem le_din (ha : LE ta ua) (hb : LE tb ub) : LE (tDIn ta tb) (uDIn false ua ub) := fun A ι σ H ρ M Qu Q w e q k =>
  ha A ι σ H ρ M _ _ w e q fun y M1 ι1 v1 H1 l1 w1 r1 q1 => hb A ι1 σ H1 ρ M1 _ _ w1 (e.le l1) q1 fun x M2 ι2 v2 H2 l2 w2 r2 ⟨kk, kvs, key, ex, em, ey, q2⟩ => by
    subst ex ey
    cases r2 with
    | m ek =>
    obtain ⟨o, h1, h2⟩ := dget_rep w2 ek em (r1.le l2)
    exact ⟨_, o, rfl, h1, by rw [h2]; exact k _ M2 ι2 _ H2 (l1.trans l2) w2 (.p (.bl _)) q2⟩
theorem le_dnotin (ha : LE ta ua) (hb : LE tb ub) : LE (tDNotIn ta tb) (uDIn true ua ub) := fun A ι σ H ρ M Qu Q w e q k =>
  ha A ι σ H ρ M _ _ w e q fun y M1 ι1 v1 H1 l1 w1 r1 q1 => hb A ι1 σ H1 ρ M1 _ _ w1 (e.le l1) q1 fun x M2 ι2 v2 H2 l2 w2 r2 ⟨kk, kvs, key, ex, em, ey, q2⟩ => by
    subst ex ey
    cases r2 with
    | m ek =>
    obtain ⟨o, h1, h2⟩ := dget_rep w2 ek em (r1.le l2)
    exact ⟨_, o, rfl, h1, by rw [h2]; exact k _ M2 ι2 _ H2 (l1.trans l2) w2 (.p (.bl _)) q2⟩
def DPutS (M : MM) (x y v : U) (R : MM → Prop) : Prop := ∃ k kvs key, x = .m k ∧ M[k]? = some (.dK kvs) ∧ y = keyU key ∧ kvs.length < sizeLine ∧ R (M.set k (.dK (putU kvs key v)))
def uDPut (ud uy uv : UE) : US := fun E ρ M => uv ρ M fun v M1 => ud ρ M1 fun x M2 => uy ρ M2 fun y M3 => DPutS M3 x y v fun M4 => E.nx ρ M4
theorem ls_dput {td ty tv : TE} {ud uy uv : UE} (hd : LE td ud) (hy : LE ty uy) (hv : LE tv uv) : LS (sDPut td ty tv) (uDPut ud uy uv) := fun A ι σ H ρ M D E w e r q =>
  hv A ι σ H ρ M _ _ w e q fun v M1 ι1 vv H1 l1 w1 r1 q1 => hd A ι1 σ H1 ρ M1 _ _ w1 (e.le l1) q1 fun x M2 ι2 vx H2 l2 w2 r2 q2 => hy A ι2 σ H2 ρ M2 _ _ w2 (e.le (l1.trans l2)) q2 fun y M3 ι3 vy H3 l3 w3 r3 ⟨kk, kvs, key, ex, em, ey, hz, q3⟩ => by
    subst ex ey
    have r2' := r2.le l3
    cases r2' with
    | m ek =>
    obtain ⟨gs, h1, h2⟩ := w3.obj kk _ _ ek em
    have hmem := List.mem_of_getElem? ek
    have l4 := (l1.trans l2).trans l3
    refine ⟨_, _, rfl, ?_, r.nx ι3 σ _ ρ _ (l4.trans (.put hmem)) (w3.put (mo := .dK (putU kvs key v)) ek ⟨_, upd_same, Paired.mapP (put_rep h2 (r1.le (l2.trans l3))) fun _ _ q => ⟨q.1, q.2.le (.put hmem)⟩⟩) (e.le (l4.trans (.put hmem))) q3⟩
    rw [key_rep r3]
    exact DPut.k (k := key) h1 (by rw [h2.len]; exact hz)
theorem rd_din {neg : Bool} {Q : UK} : uDIn neg ua ub ρ M Q = ua ρ M fun y M1 => ub ρ M1 fun x M2 => DInS neg M2 y x Q := rfl
theorem rd_dput {ud uy uv : UE} {E : UEnds} : uDPut ud uy uv E ρ M = uv ρ M fun v M1 => ud ρ M1 fun x M2 => uy ρ M2 fun y M3 => DPutS M3 x y v fun M4 => E.nx ρ M4 := rfl
theorem dinI_at {neg : Bool} {k : Nat} {kvs : List (Key × U)} {x : Int} {Q : UK} (h1 : M[k]? = some (.dK kvs)) (q : Q (.p (.bl (if neg then !(valU kvs (.inl x)).isSome else (valU kvs (.inl x)).isSome))) M) : DInS neg M (.p (.int x)) (.m k) Q := ⟨k, kvs, .inl x, rfl, h1, rfl, q⟩
theorem dputI_at {k : Nat} {kvs : List (Key × U)} {x : Int} {v : U} {R : MM → Prop} (h1 : M[k]? = some (.dK kvs)) (hz : kvs.length < sizeLine) (q : R (M.set k (.dK (putU kvs (.inl x) v)))) : DPutS M (.m k) (.p (.int x)) v R := ⟨k, kvs, .inl x, rfl, h1, rfl, hz, q⟩
def IdxS (us : List U) (xs : List Str) (M : MM) (Q : UK) : Prop := ∃ (t : Str) (j : Nat), us = [.p (.str t)] ∧ xs[j]? = some t ∧ (∀ m, m < j → xs[m]? ≠ some t) ∧ Q (.p (.int j)) M
def uIdxK (xs : List Str) (ul : UA) : UE := fun ρ M Q => ul ρ M fun us M1 => IdxS us xs M1 Q
theorem le_idxK {mg : Str → Option Value} {nm : Str} {p : Addr} {x y z : Str} (T3 : Tup3 K mg nm p x y z) (ha : LA n tl ul) : LE (tBM K "tuple" (rIdxT p x y z) (tC (.ref p)) tl) (uIdxK [x, y, z] ul) := fun A ι σ H ρ M Qu Q w e q k =>
  ⟨T3.ty H, ha A ι σ H ρ M _ _ w e q fun us M1 ι1 vs H1 l1 w1 hn r1 ⟨t, j, eu, ej, hf, q1⟩ => by
    subst eu
    cases r1 with
    | cons r q' =>
    cases q'
    cases r with
    | p r =>
    cases r
    exact ⟨t, j, rfl, rfl, ej, hf, k _ M1 ι1 _ H1 l1 w1 (.p (.int _)) q1⟩⟩
theorem rd_idxK {xs : List Str} {Q : UK} : uIdxK xs ul ρ M Q = ul ρ M fun us M1 => IdxS us xs M1 Q := rfl
end
end L2

namespace L2
open PySem PySem.Spec PyProof.Rows
/-! ### list(range(a, b)); lists of truths -/
section
variable {te ta tb tc : TE} {ue ua ub uc : UE} {tl : TA} {ul : UA} {n : Nat} {A : Addr → Prop} {H H' : Hp} {ι ι' : List Addr} {M M' : MM} {v : V} {u : U} {t : T} {σ : St} {ρ : UEnv} {K : PySem.W.Frag}
def rRng2 : List V → Hp → VK → Prop := fun xs H Q => ∃ i j : Int, xs = [.int i, .int j] ∧ ∀ l, H l = none → Q (.ref l) (upd H l (.rng i j))
theorem call_range2 {X : Cx} : CallR X (.type "range") rRng2 := by
  intro pins s σ H xs us Q I r h
  obtain ⟨i, j, rfl, q⟩ := h
  cases r with
  | cons r1 r =>
  cases r with
  | cons r2 r =>
  cases r
  obtain ⟨t, rfl⟩ := r1
  obtain ⟨t', rfl⟩ := r2
  refine call_range_2 ⟨.ref s.heap.objs.size, _, I.laid (fun b o e => Heap.get?_push_of_some _ e) (Nat.le_refl _) (show ObjOk X.prog X.w _ _ _ (.rng i j) from ⟨_, _, _, Heap.get?_push_size _ rfl⟩), rfl, q _ (I.hok.fresh (Nat.le_refl _))⟩
def LRng2S (us : List U) (M : MM) (Q : UK) : Prop := ∃ (i j : Int) (n : Nat), us = [.p (.int i), .p (.int j)] ∧ -(2 ^ 62) ≤ i ∧ j < 2 ^ 62 ∧ j = i + n ∧ n ≤ 1000000 ∧ Q (.p (.lst ((List.range n).map fun k : Nat => T.int (i + k)))) M
def uLRng2 (ul : UA) : UE := fun ρ M Q => ul ρ M fun us M1 => LRng2S us M1 Q
theorem rep_map {α : Type} {f : α → V} {g : α → T} (h : ∀ a, RepT A H (f a) (g a)) : ∀ l : List α, RepTs A H (l.map f) (l.map g)
  | [] => .nil
  | a :: l => .cons (h a) (rep_map h l)
theorem le_lrng2 (ha : LA n tl ul) : LE (tCB rListRng (tCons (tCB rRng2 tl) tNil)) (uLRng2 ul) := fun A ι σ H ρ M Qu Q w e q k =>
  ha A ι σ H ρ M _ _ w e q fun us M1 ι1 vs H1 l1 w1 hl r1 ⟨i, j, m, eu, b1, b2, ej, hm, q1⟩ => by
    subst eu
    cases r1 with
    | cons r1 r =>
    cases r with
    | cons r2 r =>
    cases r
    cases r1 with
    | p r1 =>
    cases r2 with
    | p r2 =>
    cases r1; cases r2
    refine ⟨i, j, rfl, fun l hl => ⟨l, i, j, m, rfl, upd_same, b1, b2, ej, hm, fun l2 hl2 => ?_⟩⟩
    exact k _ M1 ι1 _ _ ((l1.trans (.fresh hl)).trans (.fresh hl2)) ((w1.fresh hl).fresh hl2) (.p (fresh_lst (w1.fresh hl) hl2 (rep_map (fun _ => .int _) _))) q1
theorem rd_lrng2 {Q : UK} : uLRng2 ul ρ M Q = ul ρ M fun us M1 => LRng2S us M1 Q := rfl
theorem lrng2_at {i j : Int} {Q : UK} (n : Nat) (b1 : -(2 ^ 62) ≤ i) (b2 : j < 2 ^ 62) (e : j = i + n) (hn : n ≤ 1000000) (q : Q (.p (.lst ((List.range n).map fun k : Nat => T.int (i + k)))) M) : LRng2S [.p (.int i), .p (.int j)] M Q := ⟨i, j, n, rfl, b1, b2, e, hn, q⟩
theorem eqBls {neg : Bool} {ns ms : List Bool} {Q : T → Prop} (q : Q (.bl (if neg then !decide (ns = ms) else decide (ns = ms)))) : sEqL neg (.lst (ns.map T.bl)) (.lst (ms.map T.bl)) Q := by
  refine ⟨_, _, rfl, rfl, ?_⟩
  simp only [List.length_map]
  by_cases hl : ns.length = ms.length
  · refine .inr ⟨hl, fun j => ns[j]? == ms[j]?, fun j x y hx hy => ?_, by rw [all_eq_of hl]; exact q⟩
    rw [List.getElem?_map] at hx hy
    cases e1 : ns[j]? with
    | none => rw [e1] at hx; cases hx
    | some i =>
      cases e2 : ms[j]? with
      | none => rw [e2] at hy; cases hy
      | some k =>
        rw [e1] at hx; rw [e2] at hy
        cases hx; cases hy
        have := EqT.flat (n := 20) (a := .bl i) (b := .bl k) rfl rfl
        have e3 : eqV (.bl i) (.bl k) = (ns[j]? == ms[j]?) := by rw [e1, e2]; cases i <;> cases k <;> rfl
        rw [e3] at this
        exact this
  · refine .inl ⟨hl, ?_⟩
    have : decide (ns = ms) = false := decide_eq_false fun z => hl (by rw [z])
    rw [this] at q
    cases neg <;> simpa using q
/-! guards: what stands ahead -/
theorem gdIx {it : MM → U → Option (List U)} {x y : U} {Q : UK} (h : IxS it M x y Q) : IxS it M x y Q := h
theorem gdT2 {u : U} {R : U → U → Prop} (h : T2S M u R) : T2S M u R := h
theorem gdT3 {u : U} {R : U → U → U → Prop} (h : T3S M u R) : T3S M u R := h
theorem gdMe {s : List U → List U → (U → List U → Prop) → Prop} {o : U} {Q : UK} (h : MeS s ul ρ M o Q) : MeS s ul ρ M o Q := h
theorem gdLen {it : MM → U → Option (List U)} {us : List U} {Q : UK} (h : LenS it M us Q) : LenS it M us Q := h
end
end L2

namespace L2
open PySem PySem.Spec PyProof.Rows
/-! ### the links, closed -/
structure ZE (a : TE) (b : UE) : Prop where
  h : LE a b
structure ZT (a : TT) (b : UT) : Prop where
  h : LT a b
structure ZA (n : Nat) (a : TA) (b : UA) : Prop where
  h : LA n a b
structure ZO (a : TO) (b : UO) : Prop where
  h : LO a b
structure ZI (a : TI) (b : UI) : Prop where
  h : LI a b
structure ZG (a : TG) (b : UG) : Prop where
  h : LG a b
structure ZX (bs : List Bool) (n : Nat) (a : TG) (b : UG) : Prop where
  h : LGx bs n a b
structure ZS (a : TS) (b : US) : Prop where
  h : LS a b
structure ZP (a : List (TE × TE)) (b : List (UE × UE)) : Prop where
  h : LPs a b
theorem cp_nil : ZP [] [] := ⟨.nil⟩
theorem cp_cons {tk tv : TE} {uk uv : UE} {ts : List (TE × TE)} {us : List (UE × UE)} (a : ZE tk uk) (b : ZE tv uv) (c : ZP ts us) : ZP ((tk, tv) :: ts) ((uk, uv) :: us) := ⟨.cons a.h b.h c.h⟩
theorem ce_disp {trs : List (TE × TE)} {urs : List (UE × UE)} (h : ZP trs urs) : ZE (tDisp trs) (uDisp urs) := ⟨le_disp h.h⟩
section
variable {te ta tb tc : TE} {ue ua ub uc : UE} {tt tt' : TT} {ut ut' : UT} {tl : TA} {ul : UA} {n : Nat}
theorem ce_var (i : Nat) : ZE (tVar i) (uVar i) := ⟨le_var i⟩
end
section
variable {te ta tb tc : TE} {ue ua ub uc : UE} {tt tt' : TT} {ut ut' : UT} {tl : TA} {ul : UA} {n : Nat}
theorem ce_c {v : V} {t : T} (h : Sc v t) : ZE (tC v) (uC t) := ⟨le_c h⟩
end
section
variable {te ta tb tc : TE} {ue ua ub uc : UE} {tt tt' : TT} {ut ut' : UT} {tl : TA} {ul : UA} {n : Nat}
theorem ca_nil  : ZA 0 tNil uNil := ⟨la_nil ⟩
end
section
variable {te ta tb tc : TE} {ue ua ub uc : UE} {tt tt' : TT} {ut ut' : UT} {tl : TA} {ul : UA} {n : Nat}
theorem ca_cons (ha : ZE ta ua) (hl : ZA n tl ul) : ZA (n + 1) (tCons ta tl) (uCons ua ul) := ⟨la_cons ha.h hl.h⟩
end
section
variable {te ta tb tc : TE} {ue ua ub uc : UE} {tt tt' : TT} {ut ut' : UT} {tl : TA} {ul : UA} {n : Nat}
variable {A : Addr → Prop} {H H' : Hp} {ι : List Addr} {M : MM} {v : V} {u : U} {t : T}
theorem ce_op {r : R2} {s : T → T → (T → Prop) → Prop} (h : OpL r s) (ha : ZE ta ua) (hb : ZE tb ub) : ZE (tOp r ta tb) (uOp s ua ub) := ⟨le_op h ha.h hb.h⟩
end
section
variable {te ta tb tc : TE} {ue ua ub uc : UE} {tt tt' : TT} {ut ut' : UT} {tl : TA} {ul : UA} {n : Nat}
variable {A : Addr → Prop} {H H' : Hp} {ι : List Addr} {M : MM} {v : V} {u : U} {t : T}
theorem ce_isN (ha : ZE ta ua) : ZE (tOp (fun x y H Q => y = .non ∧ Q (.bl (decide (x = .non))) H) ta (tC .non)) (uIsN false ua) := ⟨le_isN ha.h⟩
end
section
variable {te ta tb tc : TE} {ue ua ub uc : UE} {tt tt' : TT} {ut ut' : UT} {tl : TA} {ul : UA} {n : Nat}
variable {A : Addr → Prop} {H H' : Hp} {ι : List Addr} {M : MM} {v : V} {u : U} {t : T}
theorem ce_notN (ha : ZE ta ua) : ZE (tOp (fun x y H Q => y = .non ∧ Q (.bl (!decide (x = .non))) H) ta (tC .non)) (uIsN true ua) := ⟨le_notN ha.h⟩
end
section
variable {te ta tb tc : TE} {ue ua ub uc : UE} {tt tt' : TT} {ut ut' : UT} {tl : TA} {ul : UA} {n : Nat}
variable {A : Addr → Prop} {H H' : Hp} {ι : List Addr} {M : MM} {v : V} {u : U} {t : T}
theorem ce_neg (ha : ZE ta ua) : ZE (tUn (rU fun i => .int (-i)) ta) (uNeg ua) := ⟨le_neg ha.h⟩
end
section
variable {te ta tb tc : TE} {ue ua ub uc : UE} {tt tt' : TT} {ut ut' : UT} {tl : TA} {ul : UA} {n : Nat}
variable {A : Addr → Prop} {H H' : Hp} {ι : List Addr} {M : MM} {v : V} {u : U} {t : T}
theorem ct_b (ha : ZE ta ua) : ZT (tB ta) (uB ua) := ⟨lt_b ha.h⟩
end
section
variable {te ta tb tc : TE} {ue ua ub uc : UE} {tt tt' : TT} {ut ut' : UT} {tl : TA} {ul : UA} {n : Nat}
variable {A : Addr → Prop} {H H' : Hp} {ι : List Addr} {M : MM} {v : V} {u : U} {t : T}
theorem ct_test (ha : ZE ta ua) : ZT (tTest ta) (uB ua) := ⟨lt_test ha.h⟩
end
section
variable {te ta tb tc : TE} {ue ua ub uc : UE} {tt tt' : TT} {ut ut' : UT} {tl : TA} {ul : UA} {n : Nat}
variable {A : Addr → Prop} {H H' : Hp} {ι : List Addr} {M : MM} {v : V} {u : U} {t : T}
theorem ct_tru {K : PySem.W.Frag} (ha : ZE ta ua) : ZT (tTru K ta) (uTru ua) := ⟨lt_tru ha.h⟩
end
section
variable {te ta tb tc : TE} {ue ua ub uc : UE} {tt tt' : TT} {ut ut' : UT} {tl : TA} {ul : UA} {n : Nat}
variable {A : Addr → Prop} {H H' : Hp} {ι : List Addr} {M : MM} {v : V} {u : U} {t : T}
theorem ct_and (ha : ZT tt ut) (hb : ZT tt' ut') : ZT (tAnd tt tt') (uAnd ut ut') := ⟨lt_and ha.h hb.h⟩
end
section
variable {te ta tb tc : TE} {ue ua ub uc : UE} {tt tt' : TT} {ut ut' : UT} {tl : TA} {ul : UA} {n : Nat}
variable {A : Addr → Prop} {H H' : Hp} {ι : List Addr} {M : MM} {v : V} {u : U} {t : T}
theorem ct_or (ha : ZT tt ut) (hb : ZT tt' ut') : ZT (tOr tt tt') (uOr ut ut') := ⟨lt_or ha.h hb.h⟩
end
section
variable {te ta tb tc : TE} {ue ua ub uc : UE} {tt tt' : TT} {ut ut' : UT} {tl : TA} {ul : UA} {n : Nat}
variable {A : Addr → Prop} {H H' : Hp} {ι : List Addr} {M : MM} {v : V} {u : U} {t : T}
theorem ct_not (ha : ZT tt ut) : ZT (tNot tt) (uNot ut) := ⟨lt_not ha.h⟩
end
section
variable {te ta tb tc : TE} {ue ua ub uc : UE} {tt tt' : TT} {ut ut' : UT} {tl : TA} {ul : UA} {n : Nat}
variable {A : Addr → Prop} {H H' : Hp} {ι : List Addr} {M : MM} {v : V} {u : U} {t : T}
end
section
variable {te ta tb tc : TE} {ue ua ub uc : UE} {tt tt' : TT} {ut ut' : UT} {tl : TA} {ul : UA} {n : Nat}
variable {A : Addr → Prop} {H H' : Hp} {ι : List Addr} {M : MM} {v : V} {u : U} {t : T}
end
section
variable {te ta tb tc : TE} {ue ua ub uc : UE} {tt tt' : TT} {ut ut' : UT} {tl : TA} {ul : UA} {n : Nat}
variable {A : Addr → Prop} {H H' : Hp} {ι : List Addr} {M : MM} {v : V} {u : U} {t : T}
end
section
variable {te ta tb tc : TE} {ue ua ub uc : UE} {tt tt' : TT} {ut ut' : UT} {tl : TA} {ul : UA} {n : Nat}
variable {A : Addr → Prop} {H H' : Hp} {ι : List Addr} {M : MM} {v : V} {u : U} {t : T}
theorem ce_if (hc : ZT tt ut) (ha : ZE ta ua) (hb : ZE tb ub) : ZE (tIf tt ta tb) (uIf ut ua ub) := ⟨le_if hc.h ha.h hb.h⟩
end
section
variable {te ta tb tc : TE} {ue ua ub uc : UE} {tt tt' : TT} {ut ut' : UT} {tl : TA} {ul : UA} {n : Nat}
variable {A : Addr → Prop} {H H' : Hp} {ι : List Addr} {M : MM} {v : V} {u : U} {t : T}
theorem ce_chain {r r' : R2} {s s' : T → T → (T → Prop) → Prop} (h : OpL r s) (h' : OpL r' s') (ha : ZE ta ua) (hb : ZE tb ub) (hc : ZE tc uc) : ZE (tChain r r' ta tb tc) (uChain s s' ua ub uc) := ⟨le_chain h h' ha.h hb.h hc.h⟩
end
section
variable {te ta tb tc : TE} {ue ua ub uc : UE} {tt tt' : TT} {ut ut' : UT} {tl : TA} {ul : UA} {n : Nat}
variable {A : Addr → Prop} {H H' : Hp} {ι : List Addr} {M : MM} {v : V} {u : U} {t : T}
theorem ce_tup (ha : ZA n tl ul) (hn : n ≤ 1000 := by decide) : ZE (tTup tl) (uTup ul) := ⟨le_tup ha.h hn⟩
end
section
variable {te ta tb tc : TE} {ue ua ub uc : UE} {tt tt' : TT} {ut ut' : UT} {tl : TA} {ul : UA} {n : Nat}
variable {A : Addr → Prop} {H H' : Hp} {ι : List Addr} {M : MM} {v : V} {u : U} {t : T}
theorem ce_lst (ha : ZA n tl ul) (hn : n ≤ 1000 := by decide) : ZE (tLst tl) (uLst ul) := ⟨le_lst ha.h hn⟩
end
section
variable {te ta tb tc : TE} {ue ua ub uc : UE} {tt tt' : TT} {ut ut' : UT} {tl : TA} {ul : UA} {n : Nat}
variable {A : Addr → Prop} {H H' : Hp} {ι : List Addr} {M : MM} {v : V} {u : U} {t : T}
theorem ce_new (ha : ZA n tl ul) (hn : n ≤ 1000 := by decide) : ZE (tLst tl) (uNew ul) := ⟨le_new ha.h hn⟩
end
section
variable {te ta tb tc : TE} {ue ua ub uc : UE} {tt tt' : TT} {ut ut' : UT} {tl : TA} {ul : UA} {n : Nat}
variable {A : Addr → Prop} {H H' : Hp} {ι : List Addr} {M : MM} {v : V} {u : U} {t : T}
end
section
variable {te ta tb tc : TE} {ue ua ub uc : UE} {tt tt' : TT} {ut ut' : UT} {tl : TA} {ul : UA} {n : Nat}
variable {A : Addr → Prop} {H H' : Hp} {ι : List Addr} {M : MM} {v : V} {u : U} {t : T}
theorem ce_ixL {K : PySem.W.Frag} (ha : ZE ta ua) (hb : ZE tb ub) : ZE (tOp (rIxL K) ta tb) (uIx itemsL ua ub) := ⟨le_ixL ha.h hb.h⟩
end
section
variable {te ta tb tc : TE} {ue ua ub uc : UE} {tt tt' : TT} {ut ut' : UT} {tl : TA} {ul : UA} {n : Nat}
variable {A : Addr → Prop} {H H' : Hp} {ι : List Addr} {M : MM} {v : V} {u : U} {t : T}
theorem ce_ixT {K : PySem.W.Frag} (ha : ZE ta ua) (hb : ZE tb ub) : ZE (tOp (rIxT K) ta tb) (uIx itemsT ua ub) := ⟨le_ixT ha.h hb.h⟩
end
section
variable {te ta tb tc : TE} {ue ua ub uc : UE} {tt tt' : TT} {ut ut' : UT} {tl : TA} {ul : UA} {n : Nat}
variable {A : Addr → Prop} {H H' : Hp} {ι : List Addr} {M : MM} {v : V} {u : U} {t : T}
theorem ce_cb {r : List V → Hp → VK → Prop} {s : List T → (T → Prop) → Prop} (h : CbL r s) (ha : ZA n tl ul) : ZE (tCB r tl) (uCb s ul) := ⟨le_cb h ha.h⟩
end
section
variable {te ta tb tc : TE} {ue ua ub uc : UE} {tt tt' : TT} {ut ut' : UT} {tl : TA} {ul : UA} {n : Nat}
variable {A : Addr → Prop} {H H' : Hp} {ι : List Addr} {M : MM} {v : V} {u : U} {t : T}
theorem ce_len (ha : ZA n tl ul) : ZE (tCB rLenL tl) (uLen itemsL ul) := ⟨le_len ha.h⟩
end
section
variable {te ta tb tc : TE} {ue ua ub uc : UE} {tt tt' : TT} {ut ut' : UT} {tl : TA} {ul : UA} {n : Nat}
variable {A : Addr → Prop} {H H' : Hp} {ι : List Addr} {M : MM} {v : V} {u : U} {t : T}
end
section
variable {te ta tb tc : TE} {ue ua ub uc : UE} {tt tt' : TT} {ut ut' : UT} {tl : TA} {ul : UA} {n : Nat}
variable {A : Addr → Prop} {H H' : Hp} {ι : List Addr} {M : MM} {v : V} {u : U} {t : T}
theorem co_none  : ZO tNoPart uNoPart := ⟨lo_none ⟩
end
section
variable {te ta tb tc : TE} {ue ua ub uc : UE} {tt tt' : TT} {ut ut' : UT} {tl : TA} {ul : UA} {n : Nat}
variable {A : Addr → Prop} {H H' : Hp} {ι : List Addr} {M : MM} {v : V} {u : U} {t : T}
theorem co_some (ha : ZE ta ua) : ZO (tPart ta) (uPart ua) := ⟨lo_some ha.h⟩
end
section
variable {te ta tb tc : TE} {ue ua ub uc : UE} {tt tt' : TT} {ut ut' : UT} {tl : TA} {ul : UA} {n : Nat}
variable {A : Addr → Prop} {H H' : Hp} {ι : List Addr} {M : MM} {v : V} {u : U} {t : T}
theorem ce_sl {K : PySem.W.Frag} {t1 t2 : TO} {u1 u2 : UO} (ha : ZE ta ua) (h1 : ZO t1 u1) (h2 : ZO t2 u2) : ZE (tSl (rSlL K) ta t1 t2) (uSl ua u1 u2) := ⟨le_sl ha.h h1.h h2.h⟩
end
section
variable {te ta tb tc : TE} {ue ua ub uc : UE} {tt tt' : TT} {ut ut' : UT} {tl : TA} {ul : UA} {n : Nat} {A A' A2 : Addr → Prop} {H H' H1 H2 : Hp} {ι ι' ι1 ι2 : List Addr} {M M' : MM} {v : V} {u : U} {t : T} {σ : St} {ρ : UEnv} {K : PySem.W.Frag}
theorem ci_list (ha : ZE ta ua) : ZI (iList K ta) (uIter ua) := ⟨li_list ha.h⟩
end
section
variable {te ta tb tc : TE} {ue ua ub uc : UE} {tt tt' : TT} {ut ut' : UT} {tl : TA} {ul : UA} {n : Nat} {A A' A2 : Addr → Prop} {H H' H1 H2 : Hp} {ι ι' ι1 ι2 : List Addr} {M M' : MM} {v : V} {u : U} {t : T} {σ : St} {ρ : UEnv} {K : PySem.W.Frag}
end
section
variable {te ta tb tc : TE} {ue ua ub uc : UE} {tt tt' : TT} {ut ut' : UT} {tl : TA} {ul : UA} {n : Nat} {A A' A2 : Addr → Prop} {H H' H1 H2 : Hp} {ι ι' ι1 ι2 : List Addr} {M M' : MM} {v : V} {u : U} {t : T} {σ : St} {ρ : UEnv} {K : PySem.W.Frag}
end
section
variable {te ta tb tc : TE} {ue ua ub uc : UE} {tt tt' : TT} {ut ut' : UT} {tl : TA} {ul : UA} {n : Nat} {A A' A2 : Addr → Prop} {H H' H1 H2 : Hp} {ι ι' ι1 ι2 : List Addr} {M M' : MM} {v : V} {u : U} {t : T} {σ : St} {ρ : UEnv} {K : PySem.W.Frag}
end
section
variable {te ta tb tc : TE} {ue ua ub uc : UE} {tt tt' : TT} {ut ut' : UT} {tl : TA} {ul : UA} {n : Nat} {A A' A2 : Addr → Prop} {H H' H1 H2 : Hp} {ι ι' ι1 ι2 : List Addr} {M M' : MM} {v : V} {u : U} {t : T} {σ : St} {ρ : UEnv} {K : PySem.W.Frag}
theorem ci_rng1 (ha : ZA n tl ul) : ZI (iRng1 tl) (uRng1 ul) := ⟨li_rng1 ha.h⟩
end
section
variable {te ta tb tc : TE} {ue ua ub uc : UE} {tt tt' : TT} {ut ut' : UT} {tl : TA} {ul : UA} {n : Nat} {A A' A2 : Addr → Prop} {H H' H1 H2 : Hp} {ι ι' ι1 ι2 : List Addr} {M M' : MM} {v : V} {u : U} {t : T} {σ : St} {ρ : UEnv} {K : PySem.W.Frag}
end
section
variable {te ta tb tc : TE} {ue ua ub uc : UE} {tt tt' : TT} {ut ut' : UT} {tl : TA} {ul : UA} {n : Nat} {A A' A2 : Addr → Prop} {H H' H1 H2 : Hp} {ι ι' ι1 ι2 : List Addr} {M M' : MM} {v : V} {u : U} {t : T} {σ : St} {ρ : UEnv} {K : PySem.W.Frag}
theorem cg_name (i : Nat) : ZG (gName i) (uName i) := ⟨lg_name i⟩
end
section
variable {te ta tb tc : TE} {ue ua ub uc : UE} {tt tt' : TT} {ut ut' : UT} {tl : TA} {ul : UA} {n : Nat} {A A' A2 : Addr → Prop} {H H' H1 H2 : Hp} {ι ι' ι1 ι2 : List Addr} {M M' : MM} {v : V} {u : U} {t : T} {σ : St} {ρ : UEnv} {K : PySem.W.Frag}
theorem cg_name2 (i j : Nat) : ZG (gTup K 2 (gCons (gName i) (gCons (gName j) gNil))) (uName2 i j) := ⟨lg_name2 i j⟩
end
section
variable {te ta tb tc : TE} {ue ua ub uc : UE} {tt tt' : TT} {ut ut' : UT} {tl : TA} {ul : UA} {n : Nat} {A A' A2 : Addr → Prop} {H H' H1 H2 : Hp} {ι ι' ι1 ι2 : List Addr} {M M' : MM} {v : V} {u : U} {t : T} {σ : St} {ρ : UEnv} {K : PySem.W.Frag}
theorem cg_name3 (i j l : Nat) : ZG (gTup K 3 (gCons (gName i) (gCons (gName j) (gCons (gName l) gNil)))) (uName3 i j l) := ⟨lg_name3 i j l⟩
end
section
variable {te ta tb tc : TE} {ue ua ub uc : UE} {tt tt' : TT} {ut ut' : UT} {tl : TA} {ul : UA} {n : Nat} {A A' A2 : Addr → Prop} {H H' H1 H2 : Hp} {ι ι' ι1 ι2 : List Addr} {M M' : MM} {v : V} {u : U} {t : T} {σ : St} {ρ : UEnv} {K : PySem.W.Frag}
end
section
variable {te ta tb tc : TE} {ue ua ub uc : UE} {tt tt' : TT} {ut ut' : UT} {tl : TA} {ul : UA} {n : Nat} {A A' A2 : Addr → Prop} {H H' H1 H2 : Hp} {ι ι' ι1 ι2 : List Addr} {M M' : MM} {v : V} {u : U} {t : T} {σ : St} {ρ : UEnv} {K : PySem.W.Frag}
theorem cgx_name {bs : List Bool} (i : Nat) (h : tgFree bs n i = true := by rfl) : ZX bs n (gName i) (uName i) := ⟨lgx_name i h⟩
end
section
variable {te ta tb tc : TE} {ue ua ub uc : UE} {tt tt' : TT} {ut ut' : UT} {tl : TA} {ul : UA} {n : Nat} {A A' A2 : Addr → Prop} {H H' H1 H2 : Hp} {ι ι' ι1 ι2 : List Addr} {M M' : MM} {v : V} {u : U} {t : T} {σ : St} {ρ : UEnv} {K : PySem.W.Frag}
end
section
variable {te ta tb tc : TE} {ue ua ub uc : UE} {tt tt' : TT} {ut ut' : UT} {tl : TA} {ul : UA} {n : Nat} {A A' A2 : Addr → Prop} {H H' H1 H2 : Hp} {ι ι' ι1 ι2 : List Addr} {M M' : MM} {v : V} {u : U} {t : T} {σ : St} {ρ : UEnv} {K : PySem.W.Frag}
theorem cgx_name3 {bs : List Bool} (i j l : Nat) (h : tgFree bs n i = true := by rfl) (h2 : tgFree bs n j = true := by rfl) (h3 : tgFree bs n l = true := by rfl) : ZX bs n (gTup K 3 (gCons (gName i) (gCons (gName j) (gCons (gName l) gNil)))) (uName3 i j l) := ⟨lgx_name3 i j l h h2 h3⟩
end
section
variable {te ta tb tc : TE} {ue ua ub uc : UE} {tt tt' : TT} {ut ut' : UT} {tl : TA} {ul : UA} {n : Nat} {A A' A2 : Addr → Prop} {H H' H1 H2 : Hp} {ι ι' ι1 ι2 : List Addr} {M M' : MM} {v : V} {u : U} {t : T} {σ : St} {ρ : UEnv} {K : PySem.W.Frag}
theorem ct_yes  : ZT tYes (fun _ M Q => Q true M) := ⟨lt_yes ⟩
end
section
variable {te ta tb tc : TE} {ue ua ub uc : UE} {tt tt' : TT} {ut ut' : UT} {tl : TA} {ul : UA} {n : Nat} {A A' A2 : Addr → Prop} {H H' H1 H2 : Hp} {ι ι' ι1 ι2 : List Addr} {M M' : MM} {v : V} {u : U} {t : T} {σ : St} {ρ : UEnv} {K : PySem.W.Frag}
theorem ce_comp {wi : TI} {ui : UI} {bs : List Bool} {g : TG} {ug : UG} (hi : ZI wi ui) (hg : ZX bs n g ug) (ht : ZT tt ut) (he : ZE te ue) : ZE (tComp wi bs n g tt te) (uComp ui bs n ug ut ue) := ⟨le_comp hi.h hg.h ht.h he.h⟩
end
section
variable {te ta tb tc : TE} {ue ua ub uc : UE} {tt tt' : TT} {ut ut' : UT} {tl : TA} {ul : UA} {n : Nat} {A A' A2 : Addr → Prop} {H H' H1 H2 : Hp} {ι ι' ι1 ι2 : List Addr} {M M' : MM} {v : V} {u : U} {t : T} {σ : St} {ρ : UEnv} {K : PySem.W.Frag}
variable {ts ts' : TS} {us us' : US}
theorem cs_next  : ZS tNext uNext := ⟨ls_next ⟩
end
section
variable {te ta tb tc : TE} {ue ua ub uc : UE} {tt tt' : TT} {ut ut' : UT} {tl : TA} {ul : UA} {n : Nat} {A A' A2 : Addr → Prop} {H H' H1 H2 : Hp} {ι ι' ι1 ι2 : List Addr} {M M' : MM} {v : V} {u : U} {t : T} {σ : St} {ρ : UEnv} {K : PySem.W.Frag}
variable {ts ts' : TS} {us us' : US}
end
section
variable {te ta tb tc : TE} {ue ua ub uc : UE} {tt tt' : TT} {ut ut' : UT} {tl : TA} {ul : UA} {n : Nat} {A A' A2 : Addr → Prop} {H H' H1 H2 : Hp} {ι ι' ι1 ι2 : List Addr} {M M' : MM} {v : V} {u : U} {t : T} {σ : St} {ρ : UEnv} {K : PySem.W.Frag}
variable {ts ts' : TS} {us us' : US}
end
section
variable {te ta tb tc : TE} {ue ua ub uc : UE} {tt tt' : TT} {ut ut' : UT} {tl : TA} {ul : UA} {n : Nat} {A A' A2 : Addr → Prop} {H H' H1 H2 : Hp} {ι ι' ι1 ι2 : List Addr} {M M' : MM} {v : V} {u : U} {t : T} {σ : St} {ρ : UEnv} {K : PySem.W.Frag}
variable {ts ts' : TS} {us us' : US}
theorem cs_seq (ha : ZS ts us) (hb : ZS ts' us') : ZS (tSeq ts ts') (uSeq us us') := ⟨ls_seq ha.h hb.h⟩
end
section
variable {te ta tb tc : TE} {ue ua ub uc : UE} {tt tt' : TT} {ut ut' : UT} {tl : TA} {ul : UA} {n : Nat} {A A' A2 : Addr → Prop} {H H' H1 H2 : Hp} {ι ι' ι1 ι2 : List Addr} {M M' : MM} {v : V} {u : U} {t : T} {σ : St} {ρ : UEnv} {K : PySem.W.Frag}
variable {ts ts' : TS} {us us' : US}
theorem cs_drop (ha : ZE ta ua) : ZS (tDrop ta) (uDrop ua) := ⟨ls_drop ha.h⟩
end
section
variable {te ta tb tc : TE} {ue ua ub uc : UE} {tt tt' : TT} {ut ut' : UT} {tl : TA} {ul : UA} {n : Nat} {A A' A2 : Addr → Prop} {H H' H1 H2 : Hp} {ι ι' ι1 ι2 : List Addr} {M M' : MM} {v : V} {u : U} {t : T} {σ : St} {ρ : UEnv} {K : PySem.W.Frag}
variable {ts ts' : TS} {us us' : US}
theorem cs_ret (ha : ZE ta ua) : ZS (tRet ta) (uRet ua) := ⟨ls_ret ha.h⟩
end
section
variable {te ta tb tc : TE} {ue ua ub uc : UE} {tt tt' : TT} {ut ut' : UT} {tl : TA} {ul : UA} {n : Nat} {A A' A2 : Addr → Prop} {H H' H1 H2 : Hp} {ι ι' ι1 ι2 : List Addr} {M M' : MM} {v : V} {u : U} {t : T} {σ : St} {ρ : UEnv} {K : PySem.W.Frag}
variable {ts ts' : TS} {us us' : US}
end
section
variable {te ta tb tc : TE} {ue ua ub uc : UE} {tt tt' : TT} {ut ut' : UT} {tl : TA} {ul : UA} {n : Nat} {A A' A2 : Addr → Prop} {H H' H1 H2 : Hp} {ι ι' ι1 ι2 : List Addr} {M M' : MM} {v : V} {u : U} {t : T} {σ : St} {ρ : UEnv} {K : PySem.W.Frag}
variable {ts ts' : TS} {us us' : US}
theorem cs_if (hc : ZT tt ut) (ha : ZS ts us) (hb : ZS ts' us') : ZS (tIfS tt ts ts') (uIfS ut us us') := ⟨ls_if hc.h ha.h hb.h⟩
end
section
variable {te ta tb tc : TE} {ue ua ub uc : UE} {tt tt' : TT} {ut ut' : UT} {tl : TA} {ul : UA} {n : Nat} {A A' A2 : Addr → Prop} {H H' H1 H2 : Hp} {ι ι' ι1 ι2 : List Addr} {M M' : MM} {v : V} {u : U} {t : T} {σ : St} {ρ : UEnv} {K : PySem.W.Frag}
variable {ts ts' : TS} {us us' : US}
theorem cs_asg {g : TG} {ug : UG} (ha : ZE ta ua) (hg : ZG g ug) : ZS (tAsg ta g) (uAsg ua ug) := ⟨ls_asg ha.h hg.h⟩
end
section
variable {te ta tb tc : TE} {ue ua ub uc : UE} {tt tt' : TT} {ut ut' : UT} {tl : TA} {ul : UA} {n : Nat} {A A' A2 : Addr → Prop} {H H' H1 H2 : Hp} {ι ι' ι1 ι2 : List Addr} {M M' : MM} {v : V} {u : U} {t : T} {σ : St} {ρ : UEnv} {K : PySem.W.Frag}
variable {ts ts' : TS} {us us' : US}
end
section
variable {te ta tb tc : TE} {ue ua ub uc : UE} {tt tt' : TT} {ut ut' : UT} {tl : TA} {ul : UA} {n : Nat} {A A' A2 : Addr → Prop} {H H' H1 H2 : Hp} {ι ι' ι1 ι2 : List Addr} {M M' : MM} {v : V} {u : U} {t : T} {σ : St} {ρ : UEnv} {K : PySem.W.Frag}
variable {ts ts' : TS} {us us' : US}
theorem cs_for {wi : TI} {ui : UI} {g : TG} {ug : UG} (hi : ZI wi ui) (hg : ZG g ug) (hb : ZS ts us) : ZS (tFor wi g ts) (uFor ui ug us) := ⟨ls_for hi.h hg.h hb.h⟩
end
section
variable {te ta tb tc : TE} {ue ua ub uc : UE} {tt tt' : TT} {ut ut' : UT} {tl : TA} {ul : UA} {n : Nat} {A A' A2 : Addr → Prop} {H H' H1 H2 : Hp} {ι ι' ι1 ι2 : List Addr} {M M' : MM} {v : V} {u : U} {t : T} {σ : St} {ρ : UEnv} {K : PySem.W.Frag}
variable {ts ts' : TS} {us us' : US}
theorem cs_while (hc : ZT tt ut) (hb : ZS ts us) : ZS (tWhile tt ts) (uWhile ut us) := ⟨ls_while hc.h hb.h⟩
end
section
variable {te ta tb tc : TE} {ue ua ub uc : UE} {tt tt' : TT} {ut ut' : UT} {tl : TA} {ul : UA} {n : Nat} {A A' A2 : Addr → Prop} {H H' H1 H2 : Hp} {ι ι' ι1 ι2 : List Addr} {M M' : MM} {v : V} {u : U} {t : T} {σ : St} {ρ : UEnv} {K : PySem.W.Frag}
variable {ts ts' : TS} {us us' : US}
theorem ce_me {r : V → List V → Hp → VK → Prop} {s : List U → List U → (U → List U → Prop) → Prop} (h : MeL r s) (ha : ZE ta ua) (hl : ZA n tl ul) : ZE (tLM r ta tl) (uMe s ua ul) := ⟨le_me h ha.h hl.h⟩
end
section
variable {te ta tb tc : TE} {ue ua ub uc : UE} {tt tt' : TT} {ut ut' : UT} {tl : TA} {ul : UA} {n : Nat} {A A' A2 : Addr → Prop} {H H' H1 H2 : Hp} {ι ι' ι1 ι2 : List Addr} {M M' : MM} {v : V} {u : U} {t : T} {σ : St} {ρ : UEnv} {K : PySem.W.Frag}
variable {ts ts' : TS} {us us' : US}
theorem ce_callU {G : List U → MM → UK → Prop} {E : XK} (ha : ZA n tl ul) : ZE (tCall (spU G) [] E tl) (uCall G ul) := ⟨le_callU ha.h⟩
end
section
variable {te ta tb tc : TE} {ue ua ub uc : UE} {tt tt' : TT} {ut ut' : UT} {tl : TA} {ul : UA} {n : Nat} {A A' A2 : Addr → Prop} {H H' H1 H2 : Hp} {ι ι' ι1 ι2 : List Addr} {M M' : MM} {v : V} {u : U} {t : T} {σ : St} {ρ : UEnv} {K : PySem.W.Frag}
variable {ts ts' : TS} {us us' : US}
theorem ce_callP {G : List T → (T → Prop) → Prop} {E : XK} (ha : ZA n tl ul) : ZE (tCall (spP G) [] E tl) (uCallP G ul) := ⟨le_callP ha.h⟩
end
section
variable {te ta tb tc : TE} {ue ua ub uc : UE} {tt tt' : TT} {ut ut' : UT} {tl : TA} {ul : UA} {n : Nat} {A A' A2 : Addr → Prop} {H H' H1 H2 : Hp} {ι ι' ι1 ι2 : List Addr} {M M' : MM} {v : V} {u : U} {t : T} {σ : St} {ρ : UEnv} {K : PySem.W.Frag}
variable {ts ts' : TS} {us us' : US}
end
section
variable {te ta tb tc : TE} {ue ua ub uc : UE} {tl : TA} {ul : UA} {n : Nat} {A : Addr → Prop} {H H' : Hp} {ι ι' : List Addr} {M M' : MM} {v : V} {u : U} {t : T} {σ : St} {ρ : UEnv} {K : PySem.W.Frag}
theorem ce_dget (ha : ZE ta ua) (hb : ZE tb ub) : ZE (tDGet ta tb) (uDGet ua ub) := ⟨le_dget ha.h hb.h⟩
end
section
variable {te ta tb tc : TE} {ue ua ub uc : UE} {tl : TA} {ul : UA} {n : Nat} {A : Addr → Prop} {H H' : Hp} {ι ι' : List Addr} {M M' : MM} {v : V} {u : U} {t : T} {σ : St} {ρ : UEnv} {K : PySem.W.Frag}
end
section
variable {te ta tb tc : TE} {ue ua ub uc : UE} {tl : TA} {ul : UA} {n : Nat} {A : Addr → Prop} {H H' : Hp} {ι ι' : List Addr} {M M' : MM} {v : V} {u : U} {t : T} {σ : St} {ρ : UEnv} {K : PySem.W.Frag}
theorem ce_ixK {p : Addr} {vs : List V} {ts : List T} (h : KTu K p vs) (hs : Paired Sc vs ts) (hb : ZE tb ub) : ZE (tOp (rIxT K) (tC (.ref p)) tb) (uIxK ts ub) := ⟨le_ixK h hs hb.h⟩
end
section
variable {te ta tb tc : TE} {ue ua ub uc : UE} {tl : TA} {ul : UA} {n : Nat} {A : Addr → Prop} {H H' : Hp} {ι ι' : List Addr} {M M' : MM} {v : V} {u : U} {t : T} {σ : St} {ρ : UEnv} {K : PySem.W.Frag}
end
section
variable {te ta tb tc : TE} {ue ua ub uc : UE} {tl : TA} {ul : UA} {n : Nat} {A : Addr → Prop} {H H' : Hp} {ι ι' : List Addr} {M M' : MM} {v : V} {u : U} {t : T} {σ : St} {ρ : UEnv} {K : PySem.W.Frag}
theorem ce_lenK {p : Addr} {vs : List V} (h : KTu K p vs) : ZE (tCB (rLenA K) (tCons (tC (.ref p)) tNil)) (uC (.int vs.length)) := ⟨le_lenK h⟩
end
section
variable {te ta tb tc : TE} {ue ua ub uc : UE} {tl : TA} {ul : UA} {n : Nat} {A : Addr → Prop} {H H' : Hp} {ι ι' : List Addr} {M M' : MM} {v : V} {u : U} {t : T} {σ : St} {ρ : UEnv} {K : PySem.W.Frag}
theorem ce_isi (c : TyC) (ha : ZE ta ua) : ZE (tCB (rIsi K) (tCons ta (tCons (tC (.ty c.name)) tNil))) (uIsi c ua) := ⟨le_isi c ha.h⟩
end
section
variable {te ta tb tc : TE} {ue ua ub uc : UE} {tl : TA} {ul : UA} {n : Nat} {A : Addr → Prop} {H H' : Hp} {ι ι' : List Addr} {M M' : MM} {v : V} {u : U} {t : T} {σ : St} {ρ : UEnv} {K : PySem.W.Frag}
end
section
variable {te ta tb tc : TE} {ue ua ub uc : UE} {tl : TA} {ul : UA} {n : Nat} {A : Addr → Prop} {H H' : Hp} {ι ι' : List Addr} {M M' : MM} {v : V} {u : U} {t : T} {σ : St} {ρ : UEnv} {K : PySem.W.Frag}
theorem ce_dnew  : ZE tDNewK uDNew := ⟨le_dnew ⟩
end
section
variable {te ta tb tc : TE} {ue ua ub uc : UE} {tl : TA} {ul : UA} {n : Nat} {A : Addr → Prop} {H H' : Hp} {ι ι' : List Addr} {M M' : MM} {v : V} {u : U} {t : T} {σ : St} {ρ : UEnv} {K : PySem.W.Frag}
theorem ce_din (ha : ZE ta ua) (hb : ZE tb ub) : ZE (tDIn ta tb) (uDIn false ua ub) := ⟨le_din ha.h hb.h⟩
end
section
variable {te ta tb tc : TE} {ue ua ub uc : UE} {tl : TA} {ul : UA} {n : Nat} {A : Addr → Prop} {H H' : Hp} {ι ι' : List Addr} {M M' : MM} {v : V} {u : U} {t : T} {σ : St} {ρ : UEnv} {K : PySem.W.Frag}
theorem ce_dnotin (ha : ZE ta ua) (hb : ZE tb ub) : ZE (tDNotIn ta tb) (uDIn true ua ub) := ⟨le_dnotin ha.h hb.h⟩
end
section
variable {te ta tb tc : TE} {ue ua ub uc : UE} {tl : TA} {ul : UA} {n : Nat} {A : Addr → Prop} {H H' : Hp} {ι ι' : List Addr} {M M' : MM} {v : V} {u : U} {t : T} {σ : St} {ρ : UEnv} {K : PySem.W.Frag}
theorem cs_dput {td ty tv : TE} {ud uy uv : UE} (hd : ZE td ud) (hy : ZE ty uy) (hv : ZE tv uv) : ZS (sDPut td ty tv) (uDPut ud uy uv) := ⟨ls_dput hd.h hy.h hv.h⟩
end
section
variable {te ta tb tc : TE} {ue ua ub uc : UE} {tl : TA} {ul : UA} {n : Nat} {A : Addr → Prop} {H H' : Hp} {ι ι' : List Addr} {M M' : MM} {v : V} {u : U} {t : T} {σ : St} {ρ : UEnv} {K : PySem.W.Frag}
theorem ce_idxK {mg : Str → Option Value} {nm : Str} {p : Addr} {x y z : Str} (T3 : Tup3 K mg nm p x y z) (ha : ZA n tl ul) : ZE (tBM K "tuple" (rIdxT p x y z) (tC (.ref p)) tl) (uIdxK [x, y, z] ul) := ⟨le_idxK T3 ha.h⟩
end
section
variable {te ta tb tc : TE} {ue ua ub uc : UE} {tl : TA} {ul : UA} {n : Nat} {A : Addr → Prop} {H H' : Hp} {ι ι' : List Addr} {M M' : MM} {v : V} {u : U} {t : T} {σ : St} {ρ : UEnv} {K : PySem.W.Frag}
theorem ce_lrng2 (ha : ZA n tl ul) : ZE (tCB rListRng (tCons (tCB rRng2 tl) tNil)) (uLRng2 ul) := ⟨le_lrng2 ha.h⟩
end
end L2

namespace L2
open PySem PySem.Spec PyProof.Rows
section
variable {P : Program} {w : World} {K : PySem.W.Frag} {mg : Str → Option Value} {base : Heap}
theorem Fun.okQ {x qual : Str} {st : Stmt} {f : Addr} {fd : FuncData} {N ps : List Str} {k : Nat} {sp : Sp} (F : Fun K x qual st f fd) (S : FnScope N ps (defScope st)) (len : ∀ vs H Q E, sp vs H Q E → vs.length = ps.length)
    (hbody : ∀ (cdv : Value) (A : Around) (outer : List Env) (s : Shared) (H : Hp) (vs : List V) (Q : VK) (E : XK), Room k (A.deeper (envOfC qual (defScope st) s.heap.objs.size f cdv)) → sp vs H Q E →
      ∃ t, QSs (cxOf CX0 P w K mg base N qual (defScope st) f cdv A outer s H E).nox (defBody st) t ∧ t { nx := fun _ H' => Q .non H', rt := Q } (start N vs) H) : FnOk P w K mg base CX0 (k + 1) f fd ps sp :=
  F.ok S len fun cdv A outer s H vs Q E hr hsp => by
    obtain ⟨t, h, q⟩ := hbody cdv A outer s H vs Q E hr hsp
    exact ⟨t, h.h, q⟩
/-- a def over trees: its things go, what it tells is a tree -/
theorem Fun.zV {x qual : Str} {st : Stmt} {f : Addr} {fd : FuncData} {N ps : List Str} {k : Nat} {G : List U → MM → UK → Prop} (F : Fun K x qual st f fd) (S : FnScope N ps (defScope st)) (len : ∀ us M Qu, G us M Qu → us.length = ps.length)
    (hbody : ∀ (cdv : Value) (A : Around) (outer : List Env) (s : Shared) (H : Hp) (E : XK), Room k (A.deeper (envOfC qual (defScope st) s.heap.objs.size f cdv)) →
      ∃ t, QSs (cxOf CX0 P w K mg base N qual (defScope st) f cdv A outer s H E).nox (defBody st) t ∧ ∃ u, ZS t u ∧ ∀ us M M1 Qu, M1 = M → G us M Qu → u { nx := fun _ M' => TrimOk M M' ∧ Qu (.p .non) (M'.take M.length), rt := fun z M' => TrimOk M M' ∧ ∃ t, frzB M.length 4 M' z = some t ∧ Qu (.p t) (M'.take M.length) } (startU N us) M1) : FnOk P w K mg base CX0 (k + 1) f fd ps (spU G) :=
  F.okV S len fun cdv A outer s H E hr => by
    obtain ⟨t, h, u, hu, q⟩ := hbody cdv A outer s H E hr
    exact ⟨t, h.h, u, hu.h, fun us M Qu g => q us M M Qu rfl g⟩
theorem Fun.zP {x qual : Str} {st : Stmt} {f : Addr} {fd : FuncData} {N ps : List Str} {k : Nat} {G : List T → (T → Prop) → Prop} (F : Fun K x qual st f fd) (S : FnScope N ps (defScope st)) (len : ∀ ts Qt, G ts Qt → ts.length = ps.length)
    (hbody : ∀ (cdv : Value) (A : Around) (outer : List Env) (s : Shared) (H : Hp) (E : XK), Room k (A.deeper (envOfC qual (defScope st) s.heap.objs.size f cdv)) →
      ∃ t, QSs (cxOf CX0 P w K mg base N qual (defScope st) f cdv A outer s H E).nox (defBody st) t ∧ ∃ u, ZS t u ∧ ∀ ts Qt, G ts Qt → u { nx := fun _ _ => Qt .non, rt := fun z M' => ∃ t, frzN 4 M' z = some t ∧ Qt t } (startU N (ts.map U.p)) []) : FnOk P w K mg base CX0 (k + 1) f fd ps (spP G) :=
  F.okP S len fun cdv A outer s H E hr => by
    obtain ⟨t, h, u, hu, q⟩ := hbody cdv A outer s H E hr
    exact ⟨t, h.h, u, hu.h, q⟩
end
end L2

set_option maxHeartbeats 4000000
namespace Mw
open PySem L2 PyProof.Rows
def top (i : Nat) : Stmt := PySem.Challenge.pw_markwords_k23_whole_one_way_alone.main.body.getD i (.Pass ⟨0, 0, 0, 0⟩)
local macro_rules | `(tactic| walk_at "rd") => `(tactic| simp only [L2.start, tSeq, tNext, tAsg, tOp, tUn, tVar, tC, gName, gSub, tRet, tRetN, tIfS, tDrop, tLM, tTru, tCall, tBM, tBM0, tRev, tChain, tComp, rd_for, rd_iList, rd_iRng1, rd_iRev, rd_iEnum, rd_pi, tSl, tNoPart, tPart, rd_I, rd_I0, rd_U, rd_test, rd_bl, tCB, tCons, tNil, tTup, tLst, tYes, tAnd, tOr, tNot, tB, tIf, tAndV, tOrV, tNotV, tTest, rd_l1, rd_l2, rd_lr, List.getElem?_cons_zero, List.getElem?_cons_succ, Option.some.injEq, exists_eq_left', List.set_cons_zero, List.set_cons_succ, maskS, List.zip_cons_cons, List.zip_nil_left, List.zip_nil_right, List.map_cons, List.map_nil, List.length_cons, List.length_nil, List.replicate, List.append_nil, List.nil_append, List.cons_append, Bool.false_eq_true, if_true, if_false, decide_eq_true_eq, Nat.zero_add, dec_eq_int, dec_eq_str])
local macro_rules | `(tactic| walk_at "hp") => `(tactic| first | assumption | exact upd_same | (refine upd_old (by assumption) ?_; walk_at "hp") | (refine upd_else (by first | assumption | (apply Ne.symm; assumption)) ?_; walk_at "hp"))
local macro_rules | `(tactic| walk_at "ext") => `(tactic| repeat (first | exact ExtS.nl | refine ExtS.sm ?_ | refine ExtS.no ?_))
local macro_rules | `(tactic| walk_at "go") => `(tactic| repeat (first | walk_at "rd" | refine ixL_at (by walk_at "hp") rfl ?_ | refine ixT_at (by walk_at "hp") rfl ?_ | refine ixL_at (by walk_at "hp") at0 ?_ | refine setL_at (by walk_at "hp") rfl ?_ | refine len_at (by walk_at "hp") ?_ | refine gTup2_at (by walk_at "hp") ?_ | refine gTup3_at (by walk_at "hp") ?_ | refine lm_at (by walk_at "hp") ?_ | refine it_at (by walk_at "hp") ?_ | refine eq_at rfl ?_ | refine ne_at rfl ?_))
section
variable {P : Program} {w : World} {K : PySem.W.Frag} {mg : Str → Option Value} {base : Heap}
abbrev sBag : Stmt := top 15
theorem scBag : FnScope ["script", "stir", "cell"] ["script"] (defScope sBag) := ⟨rfl, rfl, rfl, by decide +kernel, rfl, by decide +kernel, by decide +kernel⟩
abbrev sDraw : Stmt := top 16
theorem scDraw : FnScope ["bag", "many", "found"] ["bag", "many"] (defScope sDraw) := ⟨rfl, rfl, rfl, by decide +kernel, rfl, by decide +kernel, by decide +kernel⟩
/-- the law's bag -/
structure BagAt (H : Hp) (b : Addr) : Prop where
  ex : ∃ (c : Addr) (ns : List Int) (i a st n : Int), H b = some (.lst [.ref c, .int i, .int a, .int st, .int n]) ∧ H c = some (.lst (ns.map V.int)) ∧ 0 ≤ i ∧ i ≤ ns.length ∧ ns.length ≤ 63 ∧ (∀ x ∈ ns, 0 ≤ x) ∧ 0 ≤ a ∧ 0 ≤ st ∧ st < 2147483647
def spBag (K : PySem.W.Frag) : Sp := fun vs H Q _ => ∃ (a : Addr) (ns : List Int), vs = [.ref a] ∧ SqL K H a (ns.map V.int) ∧ ns.length ≤ 63 ∧ ∀ (b : Addr) (H' : Hp), H b = none → Same H H' → BagAt H' b → Q (.ref b) H'
theorem cut63 (ns : List Int) (h : ns.length ≤ 63) : cutV (ns.map V.int) none (some 63) = ns.map V.int := by
  unfold cutV
  have e1 : HT.sIx (ns.map V.int).length 0 none = 0 := rfl
  have e2 : HT.sIx (ns.map V.int).length (ns.map V.int).length (some 63) = min 63 (ns.map V.int).length := HT.sIx_nat _ _ 63
  rw [e1, e2]
  simp only [List.drop_zero, List.length_map]
  rw [List.take_of_length_le]
  simp; omega
theorem get_ints {ns : List Int} {i : Nat} {y : V} (h : (ns.map V.int)[i]? = some y) : ∃ z, y = V.int z ∧ ns[i]? = some z := by
  rw [List.getElem?_map] at h
  cases e : ns[i]? with
  | none => rw [e] at h; cases h
  | some z => rw [e] at h; exact ⟨z, (Option.some.inj h).symm, rfl⟩
theorem ok_bag {f : Addr} {fd : FuncData} (F : Fun K "_law_bag" "_law_bag" sBag f fd) (N : Nms mg) : FnOk P w K mg base CX0 1 f fd ["script"] (spBag K) := by
  refine F.okQ scBag (fun vs H Q E h => ?_) (fun cdv A outer s H vs Q E hr h => ?_)
  · obtain ⟨a, ns, rfl, _⟩ := h
    rfl
  · obtain ⟨a, ns, rfl, hS, hlen, k⟩ := h
    refine ⟨_, (qss_cons (qs_set (i := 1) scBag.nd rfl (Or.inl rfl) qe_int)
    (qss_cons (qs_for PassesOwn.never rfl (qi_listK (K := K) rfl (qe_slice (sl_listK (K := K) rfl) (qv 0) qo_none (qo_some qe_int))) (qg_name (i := 2) scBag.nd rfl (Or.inl rfl))
      (qss_one (qs_set (i := 1) scBag.nd rfl (Or.inl rfl) (qe_op op_mod (qe_op op_add (qe_op op_add (qe_op op_mul (qv 1) qe_int) (qe_op op_mod (qv 2) qe_int)) qe_int) qe_int))))
    (qss_one (qs_ret (qe_lst (qa_c (qe_lc [false, false, false] [] (qi_listK (K := K) rfl (qe_slice (sl_listK (K := K) rfl) (qv 0) qo_none (qo_some qe_int))) (fun _ _ _ => (qg_name (i := 2) scBag.nd rfl (Or.inl rfl))) (fun _ _ _ => qts_nil) (fun _ _ _ => (qe_op op_mod (qe_callB call_abs (by rfl) N.abs b_abs (qa_c (qv 2) qa_nil)) (qe_op op_pow qe_int qe_int)))) (qa_c qe_int (qa_c qe_int (qa_c (qv 1) (qa_c qe_int qa_nil)))))))))), ?_⟩
    refine ⟨_, rfl, _, rfl, a, _, rfl, hS, fun p hp => ?_⟩
    rw [cut63 ns hlen]
    refine ⟨p, rfl, ⟨_, SqL.of upd_same⟩, for_list (K := K) (a := p) (xs := ns.map V.int) (fun i σ H2 => ∃ (st : Int) (v : Option V), σ = [some (.ref a), some (.int st), v] ∧ 0 ≤ st ∧ st < 2147483647 ∧ H2 = upd H p (.lst (ns.map V.int)))
      ⟨17, none, rfl, by decide, by decide, rfl⟩ (fun i σ H2 _ ⟨_, _, _, _, _, e⟩ => by rw [e]; exact SqL.of upd_same) ?_ ?_⟩
    · rintro i y σ H2 hi ⟨st, v, rfl, h0, h1, rfl⟩
      obtain ⟨z, rfl, _⟩ := get_ints hi
      walk_at "rd"
      refine ⟨.inr ⟨by decide, by decide⟩, by decide, by decide, _, _, rfl, Int.emod_nonneg _ (by decide), Int.emod_lt_of_pos _ (by decide), trivial⟩
    · rintro σ H2 ⟨st, v, rfl, h0, h1, rfl⟩
      have hS2 : SqL K (upd H p (.lst (ns.map V.int))) a (ns.map V.int) := ((Same.refl H).upd hp).seq hS
      refine ⟨_, rfl, _, rfl, a, _, rfl, hS2, fun p2 hp2 => ?_⟩
      rw [cut63 ns hlen]
      obtain ⟨f2, n2⟩ := free_upd hp2
      refine ⟨p2, rfl, ⟨_, SqL.of upd_same⟩, fun acc hacc => ?_⟩
      obtain ⟨g1, n3⟩ := free_upd hacc
      obtain ⟨g2, n4⟩ := free_upd g1
      refine comp_list (xs := ns.map V.int) (fun i H3 => ∃ ys : List Int, H3 acc = some (.lst (ys.map V.int)) ∧ ys.length = i ∧ (∀ y ∈ ys, 0 ≤ y) ∧ H3 p2 = some (.lst (ns.map V.int)) ∧ Same H H3) ?_ ?_ ?_ ?_
      · exact ⟨[], upd_same, rfl, (fun _ h => nomatch h), upd_old hacc upd_same, (((Same.refl H).upd hp).upd f2).upd g2⟩
      · rintro i H3 _ ⟨ys, _, _, _, e, _⟩
        exact SqL.of e
      · rintro i y H3 hi ⟨ys, e1, e2, e3, e4, e5⟩
        obtain ⟨z, rfl, hz⟩ := get_ints hi
        have hil : i < ns.length := (List.getElem?_eq_some_iff.mp hz).1
        walk_at "rd"
        refine ⟨⟨by walk_at "ext", trivial⟩, ⟨by decide, by decide, by decide⟩, by decide, ys.map V.int, e1, small1000 (by simp; omega), ys ++ [(if z < 0 then -z else z) % 10 ^ (60 : Int).toNat], ?_, by simp [e2], ?_, upd_else n3.symm e4, e5.upd g2⟩
        · rw [upd_same, List.map_append]; rfl
        · intro y hy
          rcases List.mem_append.mp hy with h | h
          · exact e3 y h
          · rw [List.mem_singleton.mp h]; exact Int.emod_nonneg _ (by decide)
      · rintro H3 ⟨ys, e1, e2, e3, e4, e5⟩
        rw [List.length_map] at e2
        walk_at "rd"
        refine ⟨by decide, fun b hb => ?_⟩
        refine k b _ (e5.free hb) (e5.upd (e5.free hb)) ⟨acc, ys, 0, 0, st, 0, upd_same, upd_old hb e1, by decide, by omega, by omega, e3, by decide, h0, h1⟩
/-- any number below many -/
def spDraw : Sp := fun vs H Q _ => ∃ (b : Addr) (many : Int), vs = [.ref b, .int many] ∧ BagAt H b ∧ 0 < many ∧ many.natAbs.log2 < 9000 ∧ ∀ (found : Int) (H' : Hp), 0 ≤ found → found < many → BagAt H' b → (∀ x, x ≠ b → H' x = H x) → Q (.int found) H'
theorem bag_ne {H : Hp} {b c : Addr} {ns : List Int} {i a st n : Int} (hb : H b = some (.lst [.ref c, .int i, .int a, .int st, .int n])) (hc : H c = some (.lst (ns.map V.int))) : c ≠ b := by
  intro e
  subst e
  rw [hb] at hc
  injection hc with hc
  injection hc with hc
  cases ns with
  | nil => cases hc
  | cons z r => cases hc
theorem ok_draw {f : Addr} {fd : FuncData} (F : Fun K "_law_draw" "_law_draw" sDraw f fd) (N : Nms mg) : FnOk P w K mg base CX0 1 f fd ["bag", "many"] spDraw := by
  refine F.okQ scDraw (fun vs H Q E h => ?_) (fun cdv A outer s H vs Q E hr h => ?_)
  · obtain ⟨b, m, rfl, _⟩ := h
    rfl
  · obtain ⟨b, many, rfl, ⟨c, ns, i, a, st, n, hb, hc, i0, i1, hl, hns, a0, s0, s1⟩, m0, mb, k⟩ := h
    have hcb := bag_ne hb hc
    refine ⟨_, (qss_cons (qs_if (qw_pt (qw_and (qt_cmpR op_eq (qe_ix (ix_listK (K := K) rfl) (qv 0) qe_int (fun _ _ => rfl)) qe_int (nomark _)) (qw_and1 (qt_cmpR op_lt (qe_ix (ix_listK (K := K) rfl) (qv 0) qe_int (fun _ _ => rfl)) (qe_callB call_lenL (by rfl) N.len b_len (qa_c (qe_ix (ix_listK (K := K) rfl) (qv 0) qe_int (fun _ _ => rfl)) qa_nil)) (nomark _)))))
      (qss_cons (qs_asg (qe_ix (ix_listK (K := K) rfl) (qe_ix (ix_listK (K := K) rfl) (qv 0) qe_int (fun _ _ => rfl)) (qe_ix (ix_listK (K := K) rfl) (qv 0) qe_int (fun _ _ => rfl)) (fun _ _ => rfl)) (qg_sub (qv 0) qe_int set_list))
      (qss_one (qs_asg (qe_op op_add (qe_ix (ix_listK (K := K) rfl) (qv 0) qe_int (fun _ _ => rfl)) qe_int) (qg_sub (qv 0) qe_int set_list))))
      (qss_one (qs_if (qt_cmpR op_eq (qe_ix (ix_listK (K := K) rfl) (qv 0) qe_int (fun _ _ => rfl)) qe_int (nomark _))
        (qss_cons (qs_asg (qe_op op_add (qe_ix (ix_listK (K := K) rfl) (qv 0) qe_int (fun _ _ => rfl)) qe_int) (qg_sub (qv 0) qe_int set_list))
        (qss_cons (qs_asg (qe_op op_mod (qe_op op_add (qe_op op_add (qe_op op_add (qe_op op_pow (qe_ix (ix_listK (K := K) rfl) (qv 0) qe_int (fun _ _ => rfl)) qe_int) (qe_op op_mul qe_int (qe_ix (ix_listK (K := K) rfl) (qv 0) qe_int (fun _ _ => rfl)))) (qe_op op_mul qe_int (qe_ix (ix_listK (K := K) rfl) (qv 0) qe_int (fun _ _ => rfl)))) qe_int) qe_int) (qg_sub (qv 0) qe_int set_list))
        (qss_one (qs_ret (qe_op op_mod (qe_op op_fdivB (qe_ix (ix_listK (K := K) rfl) (qv 0) qe_int (fun _ _ => rfl)) qe_int) (qv 1))))))
        qss_nil)))
    (qss_cons (qs_set (i := 2) scDraw.nd rfl (Or.inl rfl) (qe_op op_mod (qe_ix (ix_listK (K := K) rfl) (qv 0) qe_int (fun _ _ => rfl)) (qv 1)))
    (qss_cons (qs_asg (qe_op op_fdivB (qe_ix (ix_listK (K := K) rfl) (qv 0) qe_int (fun _ _ => rfl)) (qv 1)) (qg_sub (qv 0) qe_int set_list))
    (qss_one (qs_ret (qv 2)))))), ?_⟩
    walk_at "go"
    have fin : ∀ (z : Int) (H' : Hp) (i' a' st' n' : Int), 0 ≤ z → H' b = some (.lst [.ref c, .int i', .int (z / many), .int st', .int n']) → (∀ x, x ≠ b → H' x = H x) → 0 ≤ i' → i' ≤ ns.length → 0 ≤ st' → st' < 2147483647 → Q (.int (z % many)) H' := fun z H' i' a' st' n' hz e1 e2 e3 e4 e5 e6 =>
      k _ _ (Int.emod_nonneg _ (by omega)) (Int.emod_lt_of_pos _ m0) ⟨c, ns, i', z / many, st', n', e1, by rw [e2 c hcb]; exact hc, e3, e4, hl, hns, Int.ediv_nonneg hz (by omega), e5, e6⟩ e2
    refine ite2 (fun ha => ?_) (fun ha => ?_)
    · walk_at "go"
      refine ite2 (fun hi => ?_) (fun hi => ?_)
      · rw [List.length_map] at hi
        obtain ⟨j, rfl⟩ : ∃ j : Nat, i = (j : Int) := ⟨i.toNat, by omega⟩
        have hj : j < ns.length := by omega
        walk_at "go"
        refine ixL_at hc (atI_nat (v := .int ns[j]) (by rw [List.getElem?_map, List.getElem?_eq_getElem hj]; rfl)) ?_
        walk_at "go"
        refine ⟨m0, ?_⟩
        walk_at "go"
        refine ⟨⟨m0, mb⟩, ?_⟩
        walk_at "go"
        exact fin _ _ (j + 1) 0 st n (hns _ (List.getElem_mem hj)) upd_same (fun x hx => by rw [upd_ne hx, upd_ne hx, upd_ne hx]) (by omega) (by omega) s0 s1
      · walk_at "go"
        rw [if_pos ha]
        walk_at "go"
        refine ⟨⟨by decide, by decide, by omega⟩, ?_⟩
        walk_at "go"
        refine ⟨.inl ⟨by decide, by decide⟩, ?_⟩
        walk_at "go"
        refine ⟨.inl ⟨by decide, by decide⟩, by decide, ?_⟩
        walk_at "go"
        refine ⟨⟨by decide, by decide⟩, m0, ?_⟩
        refine k _ _ (Int.emod_nonneg _ (by omega)) (Int.emod_lt_of_pos _ m0) ⟨c, ns, i, a, _, n + 1, upd_same, ?_, i0, i1, hl, hns, a0, Int.emod_nonneg _ (by decide), Int.emod_lt_of_pos _ (by decide)⟩ fun x hx => ?_
        · walk_at "hp"
        · rw [upd_ne hx, upd_ne hx]
    · walk_at "go"
      rw [if_neg ha]
      walk_at "go"
      refine ⟨m0, ?_⟩
      walk_at "go"
      refine ⟨⟨m0, mb⟩, ?_⟩
      walk_at "go"
      exact fin _ _ i 0 st n a0 upd_same (fun x hx => by rw [upd_ne hx]) i0 i1 s0 s1

/-- the list that the bag holds on to -/
def headOf (H : Hp) (b c : Addr) : Prop := ∃ r, H b = some (.lst (.ref c :: r))
theorem head_keep {H H' : Hp} {b c : Addr} {r r' : List V} (h : H b = some (.lst (.ref c :: r))) (h' : H' b = some (.lst (.ref c :: r'))) : ∀ c', headOf H b c' → headOf H' b c' := fun c' ⟨q, e⟩ => by
  rw [h] at e
  injection e with e
  injection e with e
  injection e with e _
  injection e with e
  subst e
  exact ⟨r', h'⟩
theorem head_inj {H : Hp} {b c c' : Addr} (h : headOf H b c) (h' : headOf H b c') : c = c' := by
  obtain ⟨q, e⟩ := h
  obtain ⟨q', e'⟩ := h'
  rw [e] at e'
  injection e' with e'
  injection e' with e'
  injection e' with e' _
  injection e'
theorem head_same {H H' : Hp} {b c : Addr} (s : Same H H') (h : headOf H b c) : headOf H' b c := by
  obtain ⟨q, e⟩ := h
  exact ⟨q, s _ _ e⟩
def spDraw2 : Sp := fun vs H Q _ => ∃ (b : Addr) (many : Int), vs = [.ref b, .int many] ∧ BagAt H b ∧ 0 < many ∧ many.natAbs.log2 < 9000 ∧ ∀ (found : Int) (H' : Hp), 0 ≤ found → found < many → BagAt H' b → (∀ x, x ≠ b → H' x = H x) → (∀ c, headOf H b c → headOf H' b c) → Q (.int found) H'
theorem BagAt.put {H : Hp} {b p c0 : Addr} {o : HO} (h : BagAt H b) (hh : headOf H b c0) (n1 : p ≠ b) (n2 : p ≠ c0) : BagAt (L2.upd H p o) b := by
  obtain ⟨c, ns, i, a, st, n, hb, hc, r⟩ := h.ex
  have e : c0 = c := by
    obtain ⟨q, e⟩ := hh
    rw [hb] at e
    injection e with e
    injection e with e
    injection e with e _
    injection e with e
    exact e.symm
  subst e
  exact ⟨c0, ns, i, a, st, n, upd_else n1.symm hb, upd_else n2.symm hc, r⟩
theorem head_put {H : Hp} {b p c0 : Addr} {o : HO} (hh : headOf H b c0) (n1 : p ≠ b) : headOf (upd H p o) b c0 := by
  obtain ⟨q, e⟩ := hh
  exact ⟨q, upd_else n1.symm e⟩
theorem ok_draw2 {f : Addr} {fd : FuncData} (F : Fun K "_law_draw" "_law_draw" sDraw f fd) (N : Nms mg) : FnOk P w K mg base CX0 1 f fd ["bag", "many"] spDraw2 := by
  refine F.okQ scDraw (fun vs H Q E h => ?_) (fun cdv A outer s H vs Q E hr h => ?_)
  · obtain ⟨b, m, rfl, _⟩ := h
    rfl
  · obtain ⟨b, many, rfl, ⟨c, ns, i, a, st, n, hb, hc, i0, i1, hl, hns, a0, s0, s1⟩, m0, mb, k⟩ := h
    have hcb := bag_ne hb hc
    refine ⟨_, (qss_cons (qs_if (qw_pt (qw_and (qt_cmpR op_eq (qe_ix (ix_listK (K := K) rfl) (qv 0) qe_int (fun _ _ => rfl)) qe_int (nomark _)) (qw_and1 (qt_cmpR op_lt (qe_ix (ix_listK (K := K) rfl) (qv 0) qe_int (fun _ _ => rfl)) (qe_callB call_lenL (by rfl) N.len b_len (qa_c (qe_ix (ix_listK (K := K) rfl) (qv 0) qe_int (fun _ _ => rfl)) qa_nil)) (nomark _)))))
      (qss_cons (qs_asg (qe_ix (ix_listK (K := K) rfl) (qe_ix (ix_listK (K := K) rfl) (qv 0) qe_int (fun _ _ => rfl)) (qe_ix (ix_listK (K := K) rfl) (qv 0) qe_int (fun _ _ => rfl)) (fun _ _ => rfl)) (qg_sub (qv 0) qe_int set_list))
      (qss_one (qs_asg (qe_op op_add (qe_ix (ix_listK (K := K) rfl) (qv 0) qe_int (fun _ _ => rfl)) qe_int) (qg_sub (qv 0) qe_int set_list))))
      (qss_one (qs_if (qt_cmpR op_eq (qe_ix (ix_listK (K := K) rfl) (qv 0) qe_int (fun _ _ => rfl)) qe_int (nomark _))
        (qss_cons (qs_asg (qe_op op_add (qe_ix (ix_listK (K := K) rfl) (qv 0) qe_int (fun _ _ => rfl)) qe_int) (qg_sub (qv 0) qe_int set_list))
        (qss_cons (qs_asg (qe_op op_mod (qe_op op_add (qe_op op_add (qe_op op_add (qe_op op_pow (qe_ix (ix_listK (K := K) rfl) (qv 0) qe_int (fun _ _ => rfl)) qe_int) (qe_op op_mul qe_int (qe_ix (ix_listK (K := K) rfl) (qv 0) qe_int (fun _ _ => rfl)))) (qe_op op_mul qe_int (qe_ix (ix_listK (K := K) rfl) (qv 0) qe_int (fun _ _ => rfl)))) qe_int) qe_int) (qg_sub (qv 0) qe_int set_list))
        (qss_one (qs_ret (qe_op op_mod (qe_op op_fdivB (qe_ix (ix_listK (K := K) rfl) (qv 0) qe_int (fun _ _ => rfl)) qe_int) (qv 1))))))
        qss_nil)))
    (qss_cons (qs_set (i := 2) scDraw.nd rfl (Or.inl rfl) (qe_op op_mod (qe_ix (ix_listK (K := K) rfl) (qv 0) qe_int (fun _ _ => rfl)) (qv 1)))
    (qss_cons (qs_asg (qe_op op_fdivB (qe_ix (ix_listK (K := K) rfl) (qv 0) qe_int (fun _ _ => rfl)) (qv 1)) (qg_sub (qv 0) qe_int set_list))
    (qss_one (qs_ret (qv 2)))))), ?_⟩
    walk_at "go"
    have fin : ∀ (z : Int) (H' : Hp) (i' a' st' n' : Int), 0 ≤ z → H' b = some (.lst [.ref c, .int i', .int (z / many), .int st', .int n']) → (∀ x, x ≠ b → H' x = H x) → 0 ≤ i' → i' ≤ ns.length → 0 ≤ st' → st' < 2147483647 → Q (.int (z % many)) H' := fun z H' i' a' st' n' hz e1 e2 e3 e4 e5 e6 =>
      k _ _ (Int.emod_nonneg _ (by omega)) (Int.emod_lt_of_pos _ m0) ⟨c, ns, i', z / many, st', n', e1, by rw [e2 c hcb]; exact hc, e3, e4, hl, hns, Int.ediv_nonneg hz (by omega), e5, e6⟩ e2 (head_keep hb e1)
    refine ite2 (fun ha => ?_) (fun ha => ?_)
    · walk_at "go"
      refine ite2 (fun hi => ?_) (fun hi => ?_)
      · rw [List.length_map] at hi
        obtain ⟨j, rfl⟩ : ∃ j : Nat, i = (j : Int) := ⟨i.toNat, by omega⟩
        have hj : j < ns.length := by omega
        walk_at "go"
        refine ixL_at hc (atI_nat (v := .int ns[j]) (by rw [List.getElem?_map, List.getElem?_eq_getElem hj]; rfl)) ?_
        walk_at "go"
        refine ⟨m0, ?_⟩
        walk_at "go"
        refine ⟨⟨m0, mb⟩, ?_⟩
        walk_at "go"
        exact fin _ _ (j + 1) 0 st n (hns _ (List.getElem_mem hj)) upd_same (fun x hx => by rw [upd_ne hx, upd_ne hx, upd_ne hx]) (by omega) (by omega) s0 s1
      · walk_at "go"
        rw [if_pos ha]
        walk_at "go"
        refine ⟨⟨by decide, by decide, by omega⟩, ?_⟩
        walk_at "go"
        refine ⟨.inl ⟨by decide, by decide⟩, ?_⟩
        walk_at "go"
        refine ⟨.inl ⟨by decide, by decide⟩, by decide, ?_⟩
        walk_at "go"
        refine ⟨⟨by decide, by decide⟩, m0, ?_⟩
        refine k _ _ (Int.emod_nonneg _ (by omega)) (Int.emod_lt_of_pos _ m0) ⟨c, ns, i, a, _, n + 1, upd_same, ?_, i0, i1, hl, hns, a0, Int.emod_nonneg _ (by decide), Int.emod_lt_of_pos _ (by decide)⟩ (fun x hx => by rw [upd_ne hx, upd_ne hx]) (head_keep hb upd_same)
        walk_at "hp"
    · walk_at "go"
      rw [if_neg ha]
      walk_at "go"
      refine ⟨m0, ?_⟩
      walk_at "go"
      refine ⟨⟨m0, mb⟩, ?_⟩
      walk_at "go"
      exact fin _ _ i 0 st n a0 upd_same (fun x hx => by rw [upd_ne hx]) i0 i1 s0 s1

/-! ### the bag among the things that change -/
def MB (M : MM) (k : Nat) (o : MO) (L : List MO) : MM := M.set k o ++ L
theorem MB_len {M : MM} {k : Nat} {o : MO} {L : List MO} : (MB M k o L).length = M.length + L.length := by unfold MB; rw [List.length_append, List.length_set]
theorem MB_new {M : MM} {k : Nat} {o x : MO} {L : List MO} : MB M k o L ++ [x] = MB M k o (L ++ [x]) := by unfold MB; rw [List.append_assoc]
theorem MB_get {M : MM} {k i : Nat} {o : MO} {L : List MO} : (MB M k o L)[M.length + i]? = L[i]? := by
  unfold MB
  rw [List.getElem?_append_right (by rw [List.length_set]; omega), List.length_set, Nat.add_sub_cancel_left]
theorem MB_get0 {M : MM} {k i : Nat} {o x : MO} {L : List MO} (h : L[i]? = some x := by rfl) : (MB M k o L)[M.length + i]? = some x := MB_get.trans h
theorem MB_set {M : MM} {k i : Nat} {o x : MO} {L : List MO} : (MB M k o L).set (M.length + i) x = MB M k o (L.set i x) := by
  unfold MB
  rw [List.set_append_right _ _ (by rw [List.length_set]; omega), List.length_set, Nat.add_sub_cancel_left]
theorem MB_bag {M : MM} {k : Nat} {o : MO} {L : List MO} (h : k < M.length) : (MB M k o L)[k]? = some o := by
  unfold MB
  rw [List.getElem?_append_left (by rw [List.length_set]; exact h), List.getElem?_set_self h]
theorem MB_setbag {M : MM} {k : Nat} {o o' : MO} {L : List MO} (h : k < M.length) : (MB M k o L).set k o' = MB M k o' L := by
  unfold MB
  rw [List.set_append_left _ _ (by rw [List.length_set]; exact h), List.set_set]
theorem MB_take {M : MM} {k : Nat} {o : MO} {L : List MO} : (MB M k o L).take M.length = M.set k o := by
  unfold MB
  rw [List.take_left' (by rw [List.length_set])]
theorem MB_start {M : MM} {k : Nat} {o : MO} (h : M[k]? = some o) : k < M.length ∧ M = MB M k o [] := by
  refine ⟨(List.getElem?_eq_some_iff.mp h).1, ?_⟩
  unfold MB
  rw [List.append_nil]
  obtain ⟨hk, rfl⟩ := List.getElem?_eq_some_iff.mp h
  rw [List.set_getElem_self]
theorem MB_trim {M : MM} {k : Nat} {o : MO} {L : List MO} (h : PurO o) : TrimOk M (MB M k o L) := fun i x hi e => by
  unfold MB at e
  rw [List.getElem?_append_left (by rw [List.length_set]; exact hi)] at e
  by_cases hk : k = i
  · subst hk
    rw [List.getElem?_set_self hi] at e
    cases e
    exact .inr h
  · rw [List.getElem?_set_ne hk] at e
    exact .inl e
structure BagO (o : MO) : Prop where
  ex : ∃ (ns : List Int) (i a st n : Int), o = .lst [.p (intsT ns), .p (.int i), .p (.int a), .p (.int st), .p (.int n)] ∧ 0 ≤ i ∧ i ≤ ns.length ∧ ns.length ≤ 63 ∧ (∀ x ∈ ns, 0 ≤ x) ∧ 0 ≤ a ∧ 0 ≤ st ∧ st < 2147483647
theorem BagO.pur {o : MO} (h : BagO o) : PurO o := by
  obtain ⟨ns, i, a, st, n, rfl, _⟩ := h.ex
  exact ⟨[intsT ns, .int i, .int a, .int st, .int n], rfl⟩
def gDraw : List U → MM → UK → Prop := fun us M Q => ∃ (k : Nat) (o : MO) (many : Int), us = [.m k, .p (.int many)] ∧ M[k]? = some o ∧ BagO o ∧ 0 < many ∧ many.natAbs.log2 < 9000 ∧ ∀ (found : Int) (o' : MO), 0 ≤ found → found < many → BagO o' → Q (.p (.int found)) (M.set k o')
theorem draw_at {M : MM} {k : Nat} {o : MO} {L : List MO} {many : Int} {Q : UK} (hk : k < M.length) (B : BagO o) (h0 : 0 < many) (h1 : many.natAbs.log2 < 9000) (q : ∀ (found : Int) (o' : MO), 0 ≤ found → found < many → BagO o' → Q (.p (.int found)) (MB M k o' L)) : gDraw [.m k, .p (.int many)] (MB M k o L) Q :=
  ⟨k, o, many, rfl, MB_bag hk, B, h0, h1, fun f o' f0 f1 B' => by rw [MB_setbag hk]; exact q f o' f0 f1 B'⟩
theorem ints_inv {A : Addr → Prop} {H : Hp} {v : V} {ns : List Int} (r : RepT A H v (intsT ns)) : ∃ p, v = .ref p ∧ ¬ A p ∧ H p = some (.lst (ns.map V.int)) := by
  obtain ⟨p, vs, rfl, na, h, q⟩ := r.lst_inv
  refine ⟨p, rfl, na, ?_⟩
  have : vs = ns.map V.int := by
    clear h r na
    induction ns generalizing vs with
    | nil => cases q; rfl
    | cons n ns ih =>
      cases q with
      | cons a b => cases a; rw [ih _ b]; rfl
  rw [h, this]
theorem ints_rep {A : Addr → Prop} {H : Hp} {p : Addr} {ns : List Int} (na : ¬ A p) (h : H p = some (.lst (ns.map V.int))) : RepT A H (.ref p) (intsT ns) := by
  refine .lstP na h ?_
  induction ns with
  | nil => exact .nil
  | cons n ns ih => exact .cons (.int n) (by
      clear h ih
      induction ns with
      | nil => exact .nil
      | cons n ns ih => exact .cons (.int n) ih)
theorem bag_obj {A : Addr → Prop} {ι : List Addr} {H : Hp} {b : Addr} {o : MO} (hb : BagO o) (r : ObjR A ι H b o) : BagAt H b ∧ ∃ c, headOf H b c ∧ ¬ Av A ι c ∧ ∃ ns : List Int, H c = some (.lst (ns.map V.int)) := by
  obtain ⟨ns, i, a, st, n, rfl, k⟩ := hb.ex
  obtain ⟨vs, h, q⟩ := r
  cases q with
  | cons q1 q =>
  cases q with
  | cons q2 q =>
  cases q with
  | cons q3 q =>
  cases q with
  | cons q4 q =>
  cases q with
  | cons q5 q =>
  cases q
  cases q1 with
  | p q1 =>
  obtain ⟨c, rfl, nc, hc⟩ := ints_inv q1
  cases q2 with
  | p q2 =>
  cases q3 with
  | p q3 =>
  cases q4 with
  | p q4 =>
  cases q5 with
  | p q5 =>
  cases q2; cases q3; cases q4; cases q5
  exact ⟨⟨c, ns, i, a, st, n, h, hc, k⟩, c, ⟨_, h⟩, nc, ns, hc⟩
theorem bag_back {A : Addr → Prop} {ι : List Addr} {H : Hp} {b c : Addr} (B : BagAt H b) (hd : headOf H b c) (nc : ¬ Av A ι c) : ∃ o, BagO o ∧ ObjR A ι H b o ∧ ∃ x, H b = some x ∧ ∀ H', H' b = some x → (∀ y z, H y = some z → y ≠ b → H' y = some z) → ObjR A ι H' b o := by
  obtain ⟨c', ns, i, a, st, n, h, hc, k⟩ := B.ex
  have : c = c' := head_inj hd ⟨_, h⟩
  subst this
  have ncb : c ≠ b := bag_ne h hc
  refine ⟨_, ⟨ns, i, a, st, n, rfl, k⟩, ⟨_, h, .cons (.p (ints_rep nc hc)) (.cons (.p (.int _)) (.cons (.p (.int _)) (.cons (.p (.int _)) (.cons (.p (.int _)) .nil))))⟩, _, h, fun H' e f => ⟨_, e, .cons (.p (ints_rep nc (f _ _ hc ncb))) (.cons (.p (.int _)) (.cons (.p (.int _)) (.cons (.p (.int _)) (.cons (.p (.int _)) .nil))))⟩⟩
theorem ok_drawU {f : Addr} {fd : FuncData} (F : Fun K "_law_draw" "_law_draw" sDraw f fd) (N : Nms mg) : FnOk P w K mg base CX0 1 f fd ["bag", "many"] (spU gDraw) := by
  refine (ok_draw2 F N).imp fun vs H Q E h => ?_
  obtain ⟨A, ι, M, us, Qu, w1, r, ⟨k, o, many, rfl, em, hb, h0, h1, q⟩, kk⟩ := h
  cases r with
  | cons r1 r =>
  cases r with
  | cons r2 r =>
  cases r
  cases r2 with
  | p r2 =>
  cases r2
  cases r1 with
  | m ek =>
  rename_i b
  have ro := w1.obj k b o ek em
  obtain ⟨B, c, hd, nc, ns, hcs⟩ := bag_obj hb ro
  refine ⟨b, many, rfl, B, h0, h1, fun found H' f0 f1 B' fr hdk => ?_⟩
  have hd' := hdk c hd
  have hmem := List.mem_of_getElem? ek
  obtain ⟨o', hb', ro', x, hx, _⟩ := bag_back (A := A) (ι := ι) B' hd' nc
  have eH : H' = L2.upd H b x := by
    funext y
    by_cases z : y = b
    · subst z; rw [L2.upd_same]; exact hx
    · rw [L2.upd_ne z]; exact fr y z
  subst eH
  exact kk _ _ ι _ _ (.put hmem) (w1.put ek ro') (.p (.int _)) (q found o' f0 f1 hb')
theorem up1 {a : T} {R : T → Prop} : (∃ t, U.p a = .p t ∧ R t) = R a := propext ⟨fun ⟨_, e, h⟩ => by cases e; exact h, fun h => ⟨a, rfl, h⟩⟩
theorem ucomp_mut {k : Nat} {ts : List T} {ρ0 : UEnv} {M : MM} {ug : UG} {ut : UT} {ua : UE} {Q : UK} (hz : ts.length ≤ sizeLine) (Iv : Nat → List T → MM → Prop) (h0 : Iv 0 [] M) (hk : ∀ i acc M2, Iv i acc M2 → M2[k]? = some (.lst (ts.map U.p))) (hs : ∀ i t acc M2, ts[i]? = some t → acc.length ≤ i → Iv i acc M2 → ug (.p t) ρ0 M2 fun ρ4 M4 => ut ρ4 M4 fun b M5 => if b = true then ua ρ4 M5 fun z M6 => ∃ t, z = .p t ∧ Iv (i + 1) (acc ++ [t]) M6 else Iv (i + 1) acc M5) (hd : ∀ acc M2, Iv ts.length acc M2 → Q (.p (.lst acc)) M2) : UComp (itU (.m k) (ts.map U.p)) ug ut ua ρ0 M Q := by
  refine ⟨by simpa [itU] using hz, Iv, h0, fun i acc M2 hi ha h => ⟨by show itemsL M2 (.m k) = _; simp [itemsL, hk i acc M2 h], fun u hu => ?_⟩, fun acc M2 h => ⟨by show itemsL M2 (.m k) = _; simp [itemsL, hk _ acc M2 h], hd acc M2 (by simpa [itU] using h)⟩⟩
  have hu : (ts.map U.p)[i]? = some u := hu
  rw [List.getElem?_map] at hu
  cases e : ts[i]? with
  | none => rw [e] at hu; cases hu
  | some t => rw [e] at hu; cases hu; exact hs i t acc M2 e ha h
theorem get_map {α β : Type} {f : α → β} {l : List α} {i : Nat} {y : β} (h : (l.map f)[i]? = some y) : ∃ x, l[i]? = some x ∧ y = f x := by
  rw [List.getElem?_map] at h
  cases e : l[i]? with
  | none => rw [e] at h; cases h
  | some n => rw [e] at h; cases h; exact ⟨n, rfl, rfl⟩
theorem t2_at {M : MM} {u a b : U} {R : U → U → Prop} (h : itemsT M u = some [a, b]) (q : R a b) : T2S M u R := ⟨a, b, h, q⟩
theorem t3_at {M : MM} {u a b c : U} {R : U → U → U → Prop} (h : itemsT M u = some [a, b, c]) (q : R a b c) : T3S M u R := ⟨a, b, c, h, q⟩
theorem slm_at {M : MM} {k : Nat} {ts : List T} {l h : Option Int} {Q : UK} (e : M[k]? = some (.lst (ts.map U.p))) (q : Q (.p (.lst (cutT ts l h))) M) : SlS M (.m k) l h Q := ⟨ts, by simp [sn, e], q⟩
theorem useq {a b : US} {E : UEnds} {ρ : UEnv} {M : MM} (h : a { E with nx := b E } ρ M) : uSeq a b E ρ M := h

local macro_rules | `(tactic| walk_at "us") => `(tactic| simp only [startU, uSeq, uNext, uAsg, uName, rd_name2, rd_name3, rd_var, rd_varS, uC, uCons, uNil, rd_op, rd_opS, rd_sI, rd_sI0, rd_eqI, rd_neI, rd_eqS, rd_neS, rd_eqB, rd_neB, uIsN, isNon, rd_intS, rd_blS, rd_neg, rd_bits, rd_b, rd_andV, rd_orV, rd_notV, uAnd, uOr, uNot, uIf, rd_chain, rd_chP, rd_ch, rd_pur0, rd_purC, rd_purS, rd_tup, rd_lst, uNew, uNewT, rd_ix, rd_sns0, rd_snsC, rd_cb, rd_abs', rd_min', rd_max', rd_int', rd_intB, rd_len, rd_lenP, rd_sl, rd_slS, rd_part, rd_noPart, rd_cat, rd_str, rd_iter, rd_iterP, rd_rng1, uFor, uComp, maskU, rd_t2, rd_t3, rd_callP, rd_callS, rd_callU, rd_me, rd_app, uDrop, uRet, uRetN, uIfS, uYes, ss, uIsi, uIsi2, isU, isT, uIxK, uInK, vt, uDNew, rd_din, rd_dput, rd_idxK, rd_lrng2, Bool.or_true, Bool.true_or, Bool.or_false, Bool.false_or, uIfC, iteT_int, iteT_str, rd_rev, rd_revP, up1, frzB_p, frzN_p, MO.lst.injEq, rd_dget, uPairs, MB_new, MB_len, MB_get, MB_set, Option.some.injEq, List.map_cons, List.map_nil, List.length_cons, List.length_nil, List.replicate, List.append_nil, List.nil_append, List.cons_append, List.getElem?_cons_zero, List.getElem?_cons_succ, List.set_cons_zero, List.set_cons_succ, List.zip_cons_cons, List.zip_nil_left, List.zip_nil_right, Bool.false_eq_true, if_true, if_false, decide_eq_true_eq, decide_true, decide_false, Bool.not_true, Bool.not_false, true_and, and_true, Nat.reduceAdd, Nat.reduceSub, Nat.zero_add, exists_eq_left'])
local macro_rules | `(tactic| walk_at "u") => `(tactic| repeat (first | walk_at "us" | refine ixl_at rfl ?_ | refine ixl_at at0 ?_ | refine ixl_at at1 ?_ | refine ixt_at rfl ?_ | refine t2_at rfl ?_ | refine t3_at rfl ?_ | refine me_at rfl ?_ | refine len_at' rfl ?_ | refine me_at MB_get0 ?_ | refine len_at' MB_get0 ?_))
local macro_rules | `(tactic| walk_at "vs") => `(tactic| simp only [startU, uNext, uAsg, uName, rd_name2, rd_name3, rd_var, rd_varS, uC, uCons, uNil, rd_op, rd_opS, rd_sI, rd_sI0, rd_eqI, rd_neI, rd_eqS, rd_neS, rd_eqB, rd_neB, uIsN, isNon, rd_intS, rd_blS, rd_neg, rd_bits, rd_b, rd_andV, rd_orV, rd_notV, uAnd, uOr, uNot, uIf, rd_chain, rd_chP, rd_ch, rd_pur0, rd_purC, rd_purS, rd_tup, rd_lst, uNew, uNewT, rd_ix, rd_sns0, rd_snsC, rd_cb, rd_abs', rd_min', rd_max', rd_int', rd_intB, rd_len, rd_lenP, rd_sl, rd_slS, rd_part, rd_noPart, rd_cat, rd_str, rd_iter, rd_iterP, rd_rng1, uFor, uComp, maskU, rd_t2, rd_t3, rd_callP, rd_callS, rd_callU, rd_me, rd_app, uDrop, uRet, uRetN, uIfS, uYes, ss, uIsi, uIsi2, isU, isT, uIxK, uInK, vt, uDNew, rd_din, rd_dput, rd_idxK, rd_lrng2, Bool.or_true, Bool.true_or, Bool.or_false, Bool.false_or, uIfC, iteT_int, iteT_str, rd_rev, rd_revP, up1, frzB_p, frzN_p, MO.lst.injEq, rd_dget, uPairs, MB_new, MB_len, MB_get, MB_set, Option.some.injEq, List.map_cons, List.map_nil, List.length_cons, List.length_nil, List.replicate, List.append_nil, List.nil_append, List.cons_append, List.getElem?_cons_zero, List.getElem?_cons_succ, List.set_cons_zero, List.set_cons_succ, List.zip_cons_cons, List.zip_nil_left, List.zip_nil_right, Bool.false_eq_true, if_true, if_false, decide_eq_true_eq, decide_true, decide_false, Bool.not_true, Bool.not_false, true_and, and_true, Nat.reduceAdd, Nat.reduceSub, Nat.zero_add, exists_eq_left'])
local macro_rules | `(tactic| walk_at "v") => `(tactic| repeat (first | with_reducible refine useq ?_ | walk_at "vs" | ((with_reducible refine gdIx ?_); first | refine ixl_at rfl ?_ | refine ixl_at at0 ?_ | refine ixl_at at1 ?_ | refine ixt_at rfl ?_) | ((with_reducible refine gdT2 ?_); refine t2_at rfl ?_) | ((with_reducible refine gdT3 ?_); refine t3_at rfl ?_) | ((with_reducible refine gdMe ?_); first | refine me_at rfl ?_ | refine me_at MB_get0 ?_) | ((with_reducible refine gdLen ?_); first | refine len_at' rfl ?_ | refine len_at' MB_get0 ?_)))
abbrev Mk3 := Str × Int × Int
theorem paired_len {α β : Type} {F : α → β → Prop} : ∀ {l : List α} {m : List β}, Paired F l m → l.length = m.length
  | _, _, .nil => rfl
  | _, _, .cons _ t => by simp [paired_len t]
def on (word : Int) (m : Mk3) : Bool := decide (word % 2 ^ m.2.1.toNat = m.2.2)
def Wd (ms : List Mk3) : Prop := ∀ m ∈ ms, 0 ≤ m.2.1 ∧ m.2.1 ≤ 1000
theorem two_pos (k : Nat) : (0 : Int) < 2 ^ k := Int.pow_pos (by decide)
theorem take_succ_get {α : Type} {l : List α} {i : Nat} {x : α} (h : l[i]? = some x) : l.take (i + 1) = l.take i ++ [x] := by
  obtain ⟨hi, e⟩ := List.getElem?_eq_some_iff.mp h
  rw [List.take_succ_eq_append_getElem hi, e]
def OfKind (ms : List Mk3) (kind : Str) (m : Mk3) : Prop := ∃ rest, ms.filter (fun m => decide (m.1 = kind)) = m :: rest
def fiveK : List Str := ["small", "far", "pair", "sign", "one"]
structure Pat (ms : List Mk3) : Prop where
  w : ∀ m ∈ ms, 0 ≤ m.2.1 ∧ m.2.1 ≤ 1000
  p : ∀ m ∈ ms, 0 ≤ m.2.2 ∧ m.2.2 < 2 ^ m.2.1.toNat
abbrev Nd := Int × Int
def Disj (a b : Nd) : Prop := ∀ x : Int, ¬ (x % 2 ^ a.1.toNat = a.2 ∧ x % 2 ^ b.1.toNat = b.2)
theorem Disj.symm {a b : Nd} (h : Disj a b) : Disj b a := fun x ⟨p, q⟩ => h x ⟨q, p⟩
def NdOk (a : Nd) : Prop := 0 ≤ a.1 ∧ a.1 ≤ 60 ∧ 0 ≤ a.2 ∧ a.2 < 2 ^ a.1.toNat
theorem mod_pow_le {x : Int} {a b : Nat} (h : a ≤ b) : x % 2 ^ b % 2 ^ a = x % 2 ^ a := by
  refine Int.emod_emod_of_dvd x ?_
  obtain ⟨c, rfl⟩ := Nat.exists_eq_add_of_le h
  exact ⟨2 ^ c, Int.pow_add ..⟩
def child (a : Nd) (s : Int) : Nd := (a.1 + 1, a.2 + s * 2 ^ a.1.toNat)
theorem child_sub {a : Nd} {s x : Int} (ha : NdOk a) (h : x % 2 ^ (child a s).1.toNat = (child a s).2) : x % 2 ^ a.1.toNat = a.2 := by
  have e : (child a s).1.toNat = a.1.toNat + 1 := by show (a.1 + 1).toNat = _; have := ha.1; omega
  rw [e] at h
  rw [← mod_pow_le (Nat.le_succ a.1.toNat), h]
  show (a.2 + s * 2 ^ a.1.toNat) % 2 ^ a.1.toNat = a.2
  rw [Int.mul_comm, Int.add_mul_emod_self_left]
  exact Int.emod_eq_of_lt ha.2.2.1 ha.2.2.2
theorem child_disj {a b : Nd} {s : Int} (ha : NdOk a) (h : Disj a b) : Disj (child a s) b := fun x ⟨p, q⟩ => h x ⟨child_sub ha p, q⟩
theorem child_two {a : Nd} {s t : Int} (hs : s ≠ t) : Disj (child a s) (child a t) := fun x ⟨p, q⟩ => by
  rw [show (child a t).1 = (child a s).1 from rfl, p] at q
  have : (a.2 + s * 2 ^ a.1.toNat) = a.2 + t * 2 ^ a.1.toNat := q
  have h2 : s * 2 ^ a.1.toNat = t * 2 ^ a.1.toNat := by omega
  exact hs (Int.eq_of_mul_eq_mul_right (Int.ne_of_gt (two_pos _)) h2)
theorem child_ok {a : Nd} {s : Int} (ha : NdOk a) (h59 : a.1 ≤ 59) (hs : s = 0 ∨ s = 1) : NdOk (child a s) := by
  obtain ⟨h1, h2, h3, h4⟩ := ha
  have e : (a.1 + 1).toNat = a.1.toNat + 1 := by omega
  refine ⟨by show 0 ≤ a.1 + 1; omega, by show a.1 + 1 ≤ 60; omega, ?_, ?_⟩
  · show 0 ≤ a.2 + s * 2 ^ a.1.toNat
    have := two_pos a.1.toNat
    rcases hs with rfl | rfl <;> omega
  · show a.2 + s * 2 ^ a.1.toNat < 2 ^ (a.1 + 1).toNat
    rw [e, Int.pow_succ]
    rcases hs with rfl | rfl <;> omega
theorem disj_of {a b : Nd} (h : a.2 % 2 ^ (min a.1.toNat b.1.toNat) ≠ b.2 % 2 ^ (min a.1.toNat b.1.toNat)) : Disj a b := fun x ⟨p, q⟩ => by
  refine h ?_
  rw [← p, ← q, mod_pow_le (Nat.min_le_left _ _), mod_pow_le (Nat.min_le_right _ _)]
theorem perm_erase {α : Type} : ∀ {l : List α} {i : Nat} {x : α}, l[i]? = some x → l.Perm (x :: l.eraseIdx i)
  | [], _, _, h => by simp at h
  | y :: l, 0, x, h => by simp at h; subst h; simp
  | y :: l, i + 1, x, h => by
    have := perm_erase (l := l) (i := i) (x := x) (by simpa using h)
    exact (List.Perm.cons y this).trans (List.Perm.swap ..)
def need (kind : Str) : Int := if kind = "sign" then 7 else if kind = "small" then 2 else if kind = "one" then 2 else 3
structure Right (bits : Int) (ms : List Mk3) : Prop where
  b : 8 ≤ bits ∧ bits ≤ 32
  n : ms.length = 5
  k : (ms.map (·.1)).Perm fiveK
  w : ∀ m ∈ ms, 1 ≤ m.2.1 ∧ m.2.1 ≤ bits - need m.1
  p : ∀ m ∈ ms, 0 ≤ m.2.2 ∧ m.2.2 < 2 ^ m.2.1.toNat
  d : ms.Pairwise fun m m' => Disj m.2 m'.2
theorem need_ge (k : Str) : 2 ≤ need k := by unfold need; split <;> (try split) <;> (try split) <;> decide
theorem Right.wd {bits : Int} {ms : List Mk3} (r : Right bits ms) : Wd ms := fun m hm => by
  have := r.w m hm
  have h2 := need_ge m.1
  have := r.b
  omega
theorem Right.pat {bits : Int} {ms : List Mk3} (r : Right bits ms) : Pat ms := ⟨r.wd, r.p⟩
theorem Right.kind {bits : Int} {ms : List Mk3} (r : Right bits ms) {kind : Str} (h : kind ∈ fiveK) : ∃ m, OfKind ms kind m := by
  have : kind ∈ ms.map (·.1) := r.k.mem_iff.mpr h
  obtain ⟨m, hm, e⟩ := List.mem_map.mp this
  cases q : ms.filter (fun m => decide (m.1 = kind)) with
  | nil =>
    have : m ∈ ms.filter (fun m => decide (m.1 = kind)) := List.mem_filter.mpr ⟨hm, by simp [e]⟩
    rw [q] at this; cases this
  | cons m0 rest => exact ⟨m0, rest, q⟩
theorem Right.of_perm {bits : Int} {ms ns : List Mk3} (r : Right bits ms) (h : ms.Perm ns) : Right bits ns :=
  ⟨r.b, h.length_eq.symm.trans r.n, (h.map _).symm.trans r.k, fun m hm => r.w m (h.mem_iff.mpr hm), fun m hm => r.p m (h.mem_iff.mpr hm), (h.pairwise_iff fun h => h.symm).mp r.d⟩
theorem log2_lt {n : Int} (h0 : 0 < n) (h1 : n < 2 ^ 62) : n.natAbs.log2 < 9000 := by
  have : n.natAbs.log2 < 62 := (Nat.log2_lt (by omega)).mpr (by omega)
  omega
theorem pow_bits {bits : Int} (h : 0 ≤ bits) (h2 : bits ≤ 60) : (0 : Int) < 1 * 2 ^ bits.toNat ∧ (1 : Int) * 2 ^ bits.toNat < 2 ^ 62 := by
  rw [Int.one_mul]
  refine ⟨two_pos _, ?_⟩
  have h3 : bits.toNat ≤ 60 := by omega
  have : (2 : Nat) ^ bits.toNat ≤ 2 ^ 60 := Nat.pow_le_pow_right (by decide) h3
  have h4 : ((2 ^ bits.toNat : Nat) : Int) ≤ ((2 ^ 60 : Nat) : Int) := by exact_mod_cast this
  have h5 : ((2 ^ bits.toNat : Nat) : Int) = 2 ^ bits.toNat := by simp
  omega

def T0 : List Nd := [(1, 0), (2, 1), (3, 3), (4, 7), (4, 15)]
def T1 : List Nd := [(1, 0), (3, 1), (3, 3), (3, 5), (3, 7)]
def T2 : List Nd := [(2, 0), (2, 1), (2, 2), (3, 3), (3, 7)]
def Tbl (bits : Int) (t : List Nd) : Prop := t = T0 ∨ t = T1 ∨ (t = T2 ∧ 9 ≤ bits)
def xm (mask : Int) (n : Nd) : Nd := (n.1, Builtin.bitXor n.2 mask % 2 ^ n.1.toNat)
def fm (mask : Int) (o : Str) (n : Nd) : Mk3 := (o, xm mask n)
def cnt (bits : Int) (t : List Nd) : Nat := (t.filter fun n => decide (n.1 ≤ bits - 7)).length
theorem cnt_pos {bits : Int} {t : List Nd} (hb : 8 ≤ bits) (h : Tbl bits t) : 0 < cnt bits t := by
  unfold cnt
  refine List.length_pos_iff.mpr fun e => ?_
  rcases h with rfl | rfl | ⟨rfl, h9⟩
  · have : ((1, 0) : Nd) ∈ T0.filter fun n => decide (n.1 ≤ bits - 7) := List.mem_filter.mpr ⟨by decide, by simp; omega⟩
    rw [e] at this; cases this
  · have : ((1, 0) : Nd) ∈ T1.filter fun n => decide (n.1 ≤ bits - 7) := List.mem_filter.mpr ⟨by decide, by simp; omega⟩
    rw [e] at this; cases this
  · have : ((2, 0) : Nd) ∈ T2.filter fun n => decide (n.1 ≤ bits - 7) := List.mem_filter.mpr ⟨by decide, by simp; omega⟩
    rw [e] at this; cases this
theorem tbl_len {bits : Int} {t : List Nd} (h : Tbl bits t) : t.length = 5 := by rcases h with rfl | rfl | ⟨rfl, _⟩ <;> rfl
theorem tbl_w {bits : Int} {t : List Nd} (h : Tbl bits t) : ∀ n ∈ t, 1 ≤ n.1 ∧ n.1 ≤ 4 := by rcases h with rfl | rfl | ⟨rfl, _⟩ <;> decide
theorem tbl_nn {bits : Int} {t : List Nd} (h : Tbl bits t) : ∀ n ∈ t, 0 ≤ n.2 := by rcases h with rfl | rfl | ⟨rfl, _⟩ <;> decide
theorem tbl_sign {bits : Int} {t : List Nd} (hb : 8 ≤ bits) (h : Tbl bits t) {at' : Nat} (ha : at' < cnt bits t) {n : Nd} (hn : t[at']? = some n) : n.1 ≤ bits - 7 := by
  by_cases h11 : 11 ≤ bits
  · have := (tbl_w h n (List.mem_of_getElem? hn)).2
    omega
  · have hl : at' < 5 := by
      have := (List.getElem?_eq_some_iff.mp hn).1
      rw [tbl_len h] at this
      exact this
    have key : ∀ b ∈ ([8, 9, 10] : List Int), ∀ t ∈ [T0, T1, T2], ∀ i ∈ List.range 5, i < cnt b t → ∀ n ∈ t[i]?, n.1 ≤ b - 7 := by decide +kernel
    have hbm : bits ∈ ([8, 9, 10] : List Int) := by
      rcases (show bits = 8 ∨ bits = 9 ∨ bits = 10 by omega) with rfl | rfl | rfl <;> decide
    have htm : t ∈ [T0, T1, T2] := by rcases h with rfl | rfl | ⟨rfl, _⟩ <;> simp
    exact key bits hbm t htm at' (List.mem_range.mpr hl) ha n hn
theorem tbl_disj {bits mask : Int} {t : List Nd} (h : Tbl bits t) (m0 : 0 ≤ mask) (m1 : mask < 16) : (t.map (xm mask)).Pairwise Disj := by
  have key : ∀ k ∈ List.range 16, ∀ t ∈ [T0, T1, T2], (t.map (xm (k : Int))).Pairwise fun a b => a.2 % 2 ^ (min a.1.toNat b.1.toNat) ≠ b.2 % 2 ^ (min a.1.toNat b.1.toNat) := by decide +kernel
  obtain ⟨k, rfl⟩ : ∃ k : Nat, mask = (k : Int) := ⟨mask.toNat, by omega⟩
  have htm : t ∈ [T0, T1, T2] := by rcases h with rfl | rfl | ⟨rfl, _⟩ <;> simp
  exact (key k (List.mem_range.mpr (by omega)) t htm).imp fun h => disj_of h
def four : List Str := ["small", "far", "pair", "one"]
theorem need_le {k : Str} (h : k ≠ "sign") : need k ≤ 3 := by unfold need; rw [if_neg h]; split <;> (try split) <;> decide
theorem zip_map_snd {mask : Int} : ∀ {os : List Str} {t : List Nd}, os.length = t.length → (List.zipWith (fm mask) os t).map (·.2) = t.map (xm mask)
  | [], [], _ => rfl
  | o :: os, n :: t, h => by
    have := zip_map_snd (mask := mask) (os := os) (t := t) (by simpa using h)
    simp only [List.zipWith_cons_cons, List.map_cons, this]; rfl
theorem zip_map_fst {mask : Int} : ∀ {os : List Str} {t : List Nd}, os.length = t.length → (List.zipWith (fm mask) os t).map (·.1) = os
  | [], [], _ => rfl
  | o :: os, n :: t, h => by
    have := zip_map_fst (mask := mask) (os := os) (t := t) (by simpa using h)
    simp only [List.zipWith_cons_cons, List.map_cons, this]; rfl
theorem full_right {bits mask : Int} {t : List Nd} {ks : List Str} {at' : Nat} (hb : 8 ≤ bits ∧ bits ≤ 32) (h : Tbl bits t) (m0 : 0 ≤ mask) (m1 : mask < 16) (hk : ks.Perm four) (ha : at' < cnt bits t) (ha4 : at' ≤ 4) :
    Right bits (List.zipWith (fm mask) (ks.take at' ++ (["sign"] : List Str) ++ ks.drop at') t) := by
  have hk4 : ks.length = 4 := hk.length_eq
  have hol : (ks.take at' ++ (["sign"] : List Str) ++ ks.drop at').length = t.length := by
    rw [tbl_len h]; simp only [List.length_append, List.length_take, List.length_drop, List.length_cons, List.length_nil]; omega
  have hns : ∀ k ∈ ks, k ≠ "sign" := fun k hkm => by
    have : k ∈ four := hk.mem_iff.mp hkm
    intro e; subst e; exact absurd this (by decide +kernel)
  have hget : ∀ m ∈ List.zipWith (fm mask) (ks.take at' ++ (["sign"] : List Str) ++ ks.drop at') t, ∃ i o n, (ks.take at' ++ (["sign"] : List Str) ++ ks.drop at')[i]? = some o ∧ t[i]? = some n ∧ m = fm mask o n := fun m hm => by
    obtain ⟨i, hi⟩ := List.mem_iff_getElem?.mp hm
    rw [List.getElem?_zipWith_eq_some] at hi
    obtain ⟨o, n, h1, h2, h3⟩ := hi
    exact ⟨i, o, n, h1, h2, h3.symm⟩
  refine ⟨hb, ?_, ?_, fun m hm => ?_, fun m hm => ?_, ?_⟩
  · rw [List.length_zipWith, hol, Nat.min_self, tbl_len h]
  · rw [zip_map_fst hol]
    have p1 : (ks.take at' ++ (["sign"] : List Str) ++ ks.drop at').Perm ("sign" :: (ks.take at' ++ ks.drop at')) := by
      rw [List.append_assoc]; exact List.perm_middle
    rw [List.take_append_drop] at p1
    exact p1.trans ((List.Perm.cons _ hk).trans (by decide +kernel))
  · obtain ⟨i, o, n, h1, h2, rfl⟩ := hget m hm
    have hw := tbl_w h n (List.mem_of_getElem? h2)
    show 1 ≤ n.1 ∧ n.1 ≤ bits - need o
    by_cases ho : o = "sign"
    · have hi : i = at' := by
        have hl : (ks.take at').length = at' := by simp; omega
        rcases Nat.lt_trichotomy i at' with z | z | z
        · rw [List.append_assoc, List.getElem?_append_left (by omega)] at h1
          have : o ∈ ks := List.mem_of_mem_take (List.mem_of_getElem? h1)
          exact absurd ho (hns o this)
        · exact z
        · rw [List.getElem?_append_right (by simp; omega)] at h1
          have : o ∈ ks := List.mem_of_mem_drop (List.mem_of_getElem? h1)
          exact absurd ho (hns o this)
      subst hi
      have := tbl_sign hb.1 h ha h2
      rw [ho]
      have e7 : need "sign" = 7 := by decide +kernel
      rw [e7]; omega
    · have := need_le ho
      omega
  · obtain ⟨i, o, n, h1, h2, rfl⟩ := hget m hm
    exact ⟨Int.emod_nonneg _ (Int.ne_of_gt (two_pos _)), Int.emod_lt_of_pos _ (two_pos _)⟩
  · have := tbl_disj h m0 m1
    rw [← zip_map_snd hol, List.pairwise_map] at this
    exact this
def L0 : List Str := ["small", "far", "pair", "one"]
def L1 : List Str := ["far", "one", "small", "pair"]
def rot (L : List Str) (α : Nat) : List Str := ((L ++ L).drop α).take 4
theorem rot_perm {L : List Str} {α : Nat} (h : L = L0 ∨ L = L1) (ha : α < 4) : (rot L α).Perm four := by
  have key : ∀ L ∈ [L0, L1], ∀ α ∈ List.range 4, (rot L α).Perm four := by decide +kernel
  exact key L (by rcases h with rfl | rfl <;> simp) α (List.mem_range.mpr ha)
structure LInv (bits : Int) (KS : List Str) (i : Nat) (ns : List Nd) (ms : List Mk3) : Prop where
  ok : ∀ n ∈ ns, NdOk n
  low : ∃ n ∈ ns, n.1 ≤ i
  len : ns.length ≤ 1 + 31 * i
  kinds : ms.map (·.1) = KS.take i
  w : ∀ m ∈ ms, 1 ≤ m.2.1 ∧ m.2.1 ≤ bits - need m.1
  p : ∀ m ∈ ms, NdOk m.2
  d : (ns ++ ms.map (·.2)).Pairwise Disj
structure WInv (i : Nat) (w0 : Int) (c : Nd) (ns : List Nd) (ms : List Mk3) : Prop where
  cok : NdOk c
  w : w0 ≤ c.1
  ok : ∀ n ∈ ns, NdOk n
  low : (∃ n ∈ ns, n.1 ≤ i + 1) ∨ (c.1 = w0 ∧ w0 ≤ i)
  len : (ns.length : Int) ≤ 31 * i + c.1
  d : (c :: (ns ++ ms.map (·.2))).Pairwise Disj
theorem LInv.pick {bits : Int} {KS : List Str} {i j : Nat} {ns : List Nd} {ms : List Mk3} {n : Nd} (h : LInv bits KS i ns ms) (hj : ns[j]? = some n) : WInv i n.1 n (ns.eraseIdx j) ms := by
  have hp := perm_erase hj
  have hn : n ∈ ns := List.mem_of_getElem? hj
  have hl := hp.length_eq
  have := h.len
  have hok := h.ok n hn
  refine ⟨hok, Int.le_refl _, fun m hm => h.ok m (List.mem_of_mem_eraseIdx hm), ?_, ?_, ?_⟩
  · obtain ⟨m, hm, hw⟩ := h.low
    rcases List.mem_cons.mp (hp.mem_iff.mp hm) with rfl | z
    · exact .inr ⟨rfl, hw⟩
    · exact .inl ⟨m, z, by omega⟩
  · have := hok.1
    simp only [List.length_cons] at hl
    omega
  · exact ((hp.append_right (ms.map (·.2))).pairwise_iff fun h => h.symm).mp h.d
theorem WInv.step {i : Nat} {w0 : Int} {c : Nd} {ns : List Nd} {ms : List Mk3} {s : Int} (h : WInv i w0 c ns ms) (hs : s = 0 ∨ s = 1) (h59 : c.1 ≤ 59) : WInv i w0 (child c s) (ns ++ [child c (1 - s)]) ms := by
  have hs' : 1 - s = 0 ∨ 1 - s = 1 := by omega
  obtain ⟨dc, dr⟩ := List.pairwise_cons.mp h.d
  have cw : (child c s).1 = c.1 + 1 := rfl
  refine ⟨child_ok h.cok h59 hs, by rw [cw]; have := h.w; omega, fun n hn => ?_, ?_, ?_, ?_⟩
  · rcases List.mem_append.mp hn with z | z
    · exact h.ok n z
    · rw [List.mem_singleton.mp z]; exact child_ok h.cok h59 hs'
  · rcases h.low with ⟨n, hn, hw⟩ | ⟨e, hw⟩
    · exact .inl ⟨n, List.mem_append_left _ hn, hw⟩
    · exact .inl ⟨child c (1 - s), List.mem_append_right _ (List.mem_singleton.mpr rfl), by show c.1 + 1 ≤ _; omega⟩
  · have := h.len
    rw [cw, List.length_append, List.length_singleton]
    push_cast; omega
  · have p1 : (child c s :: (ns ++ [child c (1 - s)] ++ ms.map (·.2))).Perm (child c s :: child c (1 - s) :: (ns ++ ms.map (·.2))) := by
      refine List.Perm.cons _ ?_
      rw [List.append_assoc]
      exact List.perm_middle
    refine (p1.pairwise_iff fun h => h.symm).mpr ?_
    refine List.pairwise_cons.mpr ⟨fun n hn => ?_, List.pairwise_cons.mpr ⟨fun n hn => child_disj h.cok (dc n hn), dr⟩⟩
    rcases List.mem_cons.mp hn with rfl | z
    · exact child_two (by omega)
    · exact child_disj h.cok (dc n z)
theorem WInv.fin {bits w0 goal : Int} {KS : List Str} {kind : Str} {i : Nat} {c : Nd} {ns ns0 : List Nd} {ms : List Mk3} (h : WInv i w0 c ns ms) (h0 : LInv bits KS i ns0 ms) (hk : KS[i]? = some kind) (hg : c.1 = goal) (hw : w0 < goal) (h1 : 1 ≤ goal) (h2 : goal ≤ bits - need kind) (h31 : goal ≤ 31) :
    LInv bits KS (i + 1) ns (ms ++ [(kind, c)]) := by
  have hl := h.len
  refine ⟨h.ok, ?_, ?_, ?_, fun m hm => ?_, fun m hm => ?_, ?_⟩
  · rcases h.low with ⟨n, hn, hw'⟩ | ⟨e, _⟩
    · exact ⟨n, hn, by push_cast; exact hw'⟩
    · omega
  · omega
  · rw [List.map_append, h0.kinds, take_succ_get hk]; rfl
  · rcases List.mem_append.mp hm with z | z
    · exact h0.w m z
    · rw [List.mem_singleton.mp z]; exact ⟨by show 1 ≤ c.1; omega, by show c.1 ≤ bits - need kind; omega⟩
  · rcases List.mem_append.mp hm with z | z
    · exact h0.p m z
    · rw [List.mem_singleton.mp z]; exact h.cok
  · rw [List.map_append, ← List.append_assoc]
    have p1 : (ns ++ ms.map (·.2) ++ [c]).Perm (c :: (ns ++ ms.map (·.2))) := List.perm_append_comm
    exact (p1.pairwise_iff fun h => h.symm).mpr h.d
theorem LInv.right {bits : Int} {KS : List Str} {ns : List Nd} {ms : List Mk3} (h : LInv bits KS 5 ns ms) (hK : KS.Perm fiveK) (hb : 8 ≤ bits ∧ bits ≤ 32) : Right bits ms := by
  have hl : KS.length = 5 := hK.length_eq
  have hk : ms.map (·.1) = KS := by rw [h.kinds, List.take_of_length_le (by omega)]
  refine ⟨hb, ?_, by rw [hk]; exact hK, h.w, fun m hm => ⟨(h.p m hm).2.2.1, (h.p m hm).2.2.2⟩, ?_⟩
  · have := congrArg List.length hk
    rw [List.length_map, hl] at this
    exact this
  · have := (List.pairwise_append.mp h.d).2.1
    rw [List.pairwise_map] at this
    exact this
theorem ks_low {L : List Str} {α i : Nat} {kind : Str} {bits : Int} (hb : 8 ≤ bits) (hp : (rot L α).Perm four) (hk : (("sign" : Str) :: rot L α)[i]? = some kind) : (i : Int) < bits - need kind ∧ kind ∈ fiveK ∧ i < 5 := by
  have hl : (rot L α).length = 4 := hp.length_eq
  cases i with
  | zero =>
    simp at hk; subst hk
    have e7 : need "sign" = 7 := by decide +kernel
    rw [e7]
    exact ⟨by omega, by decide +kernel, by omega⟩
  | succ i =>
    simp at hk
    have hm : kind ∈ four := hp.mem_iff.mp (List.mem_of_getElem? hk)
    have hi := (List.getElem?_eq_some_iff.mp hk).1
    have hns : kind ≠ "sign" := fun e => by subst e; exact absurd hm (by decide +kernel)
    have := need_le hns
    have sub : ∀ k ∈ four, k ∈ fiveK := by decide +kernel
    exact ⟨by push_cast; omega, sub kind hm, by omega⟩

theorem first_at {α : Type} [DecidableEq α] : ∀ {l : List α} {x : α}, x ∈ l → ∃ j : Nat, l[j]? = some x ∧ ∀ m : Nat, m < j → l[m]? ≠ some x
  | [], _, h => by cases h
  | y :: l, x, h => by
    by_cases e : y = x
    · exact ⟨0, by simp [e], fun m hm => by omega⟩
    · have : x ∈ l := by
        rcases List.mem_cons.mp h with z | z
        · exact absurd z.symm e
        · exact z
      obtain ⟨j, h1, h2⟩ := first_at this
      refine ⟨j + 1, by simpa using h1, fun m hm => ?_⟩
      cases m with
      | zero => simpa using e
      | succ m => simpa using h2 m (by omega)
theorem OfKind.mem {ms : List Mk3} {kind : Str} {m : Mk3} (h : OfKind ms kind m) : m ∈ ms := by
  obtain ⟨rest, e⟩ := h
  have : m ∈ ms.filter (fun m => decide (m.1 = kind)) := by rw [e]; exact List.mem_cons_self
  exact (List.mem_filter.mp this).1
theorem OfKind.is {ms : List Mk3} {kind : Str} {m : Mk3} (h : OfKind ms kind m) : m.1 = kind := by
  obtain ⟨rest, e⟩ := h
  have : m ∈ ms.filter (fun m => decide (m.1 = kind)) := by rw [e]; exact List.mem_cons_self
  exact of_decide_eq_true (List.mem_filter.mp this).2

def markT (m : Mk3) : T := .tup [.str m.1, .int m.2.1, .int m.2.2]
def layT (bits : Int) (ms : List Mk3) : T := .tup [.int bits, .lst (ms.map markT)]
def ndT (n : Nd) : T := .tup [.int n.1, .int n.2]
def strsT (ks : List Str) : T := .lst (ks.map T.str)
theorem cutT_map {α : Type} {f : α → T} {xs : List α} {a b : Nat} (h1 : a ≤ b) (h2 : b ≤ xs.length) : cutT (xs.map f) (some (a : Int)) (some (b : Int)) = ((xs.drop a).take (b - a)).map f := by
  unfold cutT
  have e1 : HT.sIx (xs.map f).length 0 (some (a : Int)) = min a (xs.map f).length := HT.sIx_nat _ _ a
  have e2 : HT.sIx (xs.map f).length (xs.map f).length (some (b : Int)) = min b (xs.map f).length := HT.sIx_nat _ _ b
  rw [e1, e2]
  simp only [List.length_map]
  rw [Nat.min_eq_left (show a ≤ xs.length by omega), Nat.min_eq_left h2, List.map_take, List.map_drop]
theorem cutT_take {α : Type} {f : α → T} {xs : List α} {a : Nat} (h : a ≤ xs.length) : cutT (xs.map f) none (some (a : Int)) = (xs.take a).map f := by
  unfold cutT
  have e1 : HT.sIx (xs.map f).length 0 none = 0 := rfl
  have e2 : HT.sIx (xs.map f).length (xs.map f).length (some (a : Int)) = min a (xs.map f).length := HT.sIx_nat _ _ a
  rw [e1, e2]
  simp only [List.length_map, List.drop_zero, Nat.sub_zero, Nat.min_eq_left h, List.map_take]
theorem cutT_drop {α : Type} {f : α → T} {xs : List α} {a : Nat} (h : a ≤ xs.length) : cutT (xs.map f) (some (a : Int)) none = (xs.drop a).map f := by
  unfold cutT
  have e1 : HT.sIx (xs.map f).length 0 (some (a : Int)) = min a (xs.map f).length := HT.sIx_nat _ _ a
  have e2 : HT.sIx (xs.map f).length (xs.map f).length none = (xs.map f).length := rfl
  rw [e1, e2]
  simp only [List.length_map, Nat.min_eq_left h]
  rw [List.take_of_length_le (by simp), List.map_drop]
theorem atT {α : Type} {f : α → T} {xs : List α} {i : Nat} {x : α} (h : xs[i]? = some x) : atI (xs.map f) (i : Int) = some (f x) := atI_nat (by rw [List.getElem?_map, h]; rfl)



abbrev sFullLaying : Stmt := top 17
theorem scFullLaying : FnScope ["bag", "bits", "order", "rows", "some", "mask", "at"] ["bag", "bits", "order"] (defScope sFullLaying) := ⟨rfl, rfl, rfl, by decide +kernel, rfl, by decide +kernel, by decide +kernel⟩
theorem ndFullLaying1 : (["bag", "bits", "order", "rows", "some", "mask", "at", "one"] : List Str).Nodup := by decide +kernel
theorem ndFullLaying2 : (["bag", "bits", "order", "rows", "some", "mask", "at", "k"] : List Str).Nodup := by decide +kernel
def gFull : List U → MM → UK → Prop := fun us M Q => ∃ (k : Nat) (o : MO) (bits : Int) (ks : List Str), us = [.m k, .p (.int bits), .p (strsT ks)] ∧ M[k]? = some o ∧ BagO o ∧ ks.Perm four ∧ (8 ≤ bits ∧ bits ≤ 32) ∧ ∀ (o' : MO) (ms : List Mk3), BagO o' → Right bits ms → Q (.p (layT bits ms)) (M.set k o')
theorem ok_fullU {f : Addr} {fd : FuncData} (F : Fun K "_law_full_laying" "_law_full_laying" sFullLaying f fd) (N : Nms mg) (DDraw : Def P w K mg base "_law_draw" 1 ["bag", "many"] (spU gDraw)) : FnOk P w K mg base CX0 2 f fd ["bag", "bits", "order"] (spU gFull) := by
  refine F.zV scFullLaying (fun us M Qu h => ?_) (fun cdv A outer s H E hr => ?_)
  · obtain ⟨_, _, _, _, rfl, _⟩ := h
    rfl
  refine ⟨_, (qss_cons (qs_set (i := 3) scFullLaying.nd rfl (Or.inl rfl) (qe_lst (qa_c (qe_lst (qa_c (qe_tup (qa_c qe_int (qa_c qe_int qa_nil))) (qa_c (qe_tup (qa_c qe_int (qa_c qe_int qa_nil))) (qa_c (qe_tup (qa_c qe_int (qa_c qe_int qa_nil))) (qa_c (qe_tup (qa_c qe_int (qa_c qe_int qa_nil))) (qa_c (qe_tup (qa_c qe_int (qa_c qe_int qa_nil))) qa_nil)))))) (qa_c (qe_lst (qa_c (qe_tup (qa_c qe_int (qa_c qe_int qa_nil))) (qa_c (qe_tup (qa_c qe_int (qa_c qe_int qa_nil))) (qa_c (qe_tup (qa_c qe_int (qa_c qe_int qa_nil))) (qa_c (qe_tup (qa_c qe_int (qa_c qe_int qa_nil))) (qa_c (qe_tup (qa_c qe_int (qa_c qe_int qa_nil))) qa_nil)))))) qa_nil))))
    (qss_cons (qs_expr (qe_lm PySem.F.slot_list_append PySem.F.type_list_append mt_append (qv 3) (qa_c (qe_lst (qa_c (qe_tup (qa_c qe_int (qa_c qe_int qa_nil))) (qa_c (qe_tup (qa_c qe_int (qa_c qe_int qa_nil))) (qa_c (qe_tup (qa_c qe_int (qa_c qe_int qa_nil))) (qa_c (qe_tup (qa_c qe_int (qa_c qe_int qa_nil))) (qa_c (qe_tup (qa_c qe_int (qa_c qe_int qa_nil))) qa_nil)))))) qa_nil)))
    (qss_cons (qs_set (i := 4) scFullLaying.nd rfl (Or.inr rfl) (qe_ix (ix_listK (K := K) rfl) (qv 3) (qe_def DDraw (hr.mono (by first | decide | exact Nat.le_refl _)) (qa_c (qv 0) (qa_c (qe_op op_add qe_int (qe_callTy call_int1 (by rfl) N.int b_int (qa_c (qe_cmpR op_gt (qv 1) qe_int (nomark _)) qa_nil))) qa_nil))) (fun _ _ => rfl)))
    (qss_cons (qs_set (i := 5) scFullLaying.nd rfl (Or.inr rfl) (qe_def DDraw (hr.mono (by first | decide | exact Nat.le_refl _)) (qa_c (qv 0) (qa_c qe_int qa_nil))))
    (qss_cons (qs_set (i := 6) scFullLaying.nd rfl (Or.inl rfl) (qe_def DDraw (hr.mono (by first | decide | exact Nat.le_refl _)) (qa_c (qv 0) (qa_c (qe_callB call_lenL (by rfl) N.len b_len (qa_c (qe_lc [false, true, false, false, false, false, false] ["one"] (qi_listK (K := K) rfl (qv 4)) (fun _ _ _ => (qg_name (i := 7) ndFullLaying1 rfl (Or.inl rfl))) (fun _ _ _ => qts_one (qt_cmpR op_le (qe_ix (ix_tupK (K := K) rfl) (qv 7) qe_int (fun _ _ => rfl)) (qe_op op_sub (qv 1) qe_int) (nomark _))) (fun _ _ _ => (qv 7))) qa_nil)) qa_nil))))
    (qss_cons (qs_set (i := 2) scFullLaying.nd rfl (Or.inr rfl) (qe_op op_cat (qe_op op_cat (qe_slice (sl_listK (K := K) rfl) (qv 2) qo_none (qo_some (qv 6))) (qe_lst (qa_c qe_str qa_nil))) (qe_slice (sl_listK (K := K) rfl) (qv 2) (qo_some (qv 6)) qo_none)))
    (qss_one (qs_ret (qe_tup (qa_c (qv 1) (qa_c (qe_lc [false, false, true, false, true, true, false] ["k"] (qi_range1 rfl N.range (qa_c qe_int qa_nil)) (fun _ _ _ => (qg_name (i := 7) ndFullLaying2 rfl (Or.inl rfl))) (fun _ _ _ => qts_nil) (fun _ _ _ => (qe_tup (qa_c (qe_ix (ix_listK (K := K) rfl) (qv 2) (qv 7) (fun _ _ => rfl)) (qa_c (qe_ix (ix_tupK (K := K) rfl) (qe_ix (ix_listK (K := K) rfl) (qv 4) (qv 7) (fun _ _ => rfl)) qe_int (fun _ _ => rfl)) (qa_c (qe_op op_mod (qe_op op_xor (qe_ix (ix_tupK (K := K) rfl) (qe_ix (ix_listK (K := K) rfl) (qv 4) (qv 7) (fun _ _ => rfl)) qe_int (fun _ _ => rfl)) (qv 5)) (qe_op op_shl qe_int (qe_ix (ix_tupK (K := K) rfl) (qe_ix (ix_listK (K := K) rfl) (qv 4) (qv 7) (fun _ _ => rfl)) qe_int (fun _ _ => rfl)))) qa_nil)))))) qa_nil))))))))))), _, (cs_seq (cs_asg (ce_new (ca_cons (ce_lst (ca_cons (ce_tup (ca_cons (ce_c (.int _)) (ca_cons (ce_c (.int _)) ca_nil))) (ca_cons (ce_tup (ca_cons (ce_c (.int _)) (ca_cons (ce_c (.int _)) ca_nil))) (ca_cons (ce_tup (ca_cons (ce_c (.int _)) (ca_cons (ce_c (.int _)) ca_nil))) (ca_cons (ce_tup (ca_cons (ce_c (.int _)) (ca_cons (ce_c (.int _)) ca_nil))) (ca_cons (ce_tup (ca_cons (ce_c (.int _)) (ca_cons (ce_c (.int _)) ca_nil))) ca_nil)))))) (ca_cons (ce_lst (ca_cons (ce_tup (ca_cons (ce_c (.int _)) (ca_cons (ce_c (.int _)) ca_nil))) (ca_cons (ce_tup (ca_cons (ce_c (.int _)) (ca_cons (ce_c (.int _)) ca_nil))) (ca_cons (ce_tup (ca_cons (ce_c (.int _)) (ca_cons (ce_c (.int _)) ca_nil))) (ca_cons (ce_tup (ca_cons (ce_c (.int _)) (ca_cons (ce_c (.int _)) ca_nil))) (ca_cons (ce_tup (ca_cons (ce_c (.int _)) (ca_cons (ce_c (.int _)) ca_nil))) ca_nil)))))) ca_nil))) (cg_name 3))
      (cs_seq (cs_drop (ce_me mel_append (ce_var 3) (ca_cons (ce_lst (ca_cons (ce_tup (ca_cons (ce_c (.int _)) (ca_cons (ce_c (.int _)) ca_nil))) (ca_cons (ce_tup (ca_cons (ce_c (.int _)) (ca_cons (ce_c (.int _)) ca_nil))) (ca_cons (ce_tup (ca_cons (ce_c (.int _)) (ca_cons (ce_c (.int _)) ca_nil))) (ca_cons (ce_tup (ca_cons (ce_c (.int _)) (ca_cons (ce_c (.int _)) ca_nil))) (ca_cons (ce_tup (ca_cons (ce_c (.int _)) (ca_cons (ce_c (.int _)) ca_nil))) ca_nil)))))) ca_nil)))
      (cs_seq (cs_asg (ce_ixL (ce_var 3) (ce_callU (ca_cons (ce_var 0) (ca_cons (ce_op (opl_I0 fun _ _ => .int _) (ce_c (.int _)) (ce_cb cbl_int (ca_cons (ce_op (opl_I0 fun _ _ => .bl _) (ce_var 1) (ce_c (.int _))) ca_nil))) ca_nil)))) (cg_name 4))
      (cs_seq (cs_asg (ce_callU (ca_cons (ce_var 0) (ca_cons (ce_c (.int _)) ca_nil))) (cg_name 5))
      (cs_seq (cs_asg (ce_callU (ca_cons (ce_var 0) (ca_cons (ce_len (ca_cons (ce_comp (ci_list (ce_var 4)) (cgx_name 7) (ct_test (ce_op (opl_I0 fun _ _ => .bl _) (ce_ixT (ce_var 7) (ce_c (.int _))) (ce_op (opl_I0 fun _ _ => .int _) (ce_var 1) (ce_c (.int _))))) (ce_var 7)) ca_nil)) ca_nil))) (cg_name 6))
      (cs_seq (cs_asg (ce_op opl_cat (ce_op opl_cat (ce_sl (ce_var 2) co_none (co_some (ce_var 6))) (ce_lst (ca_cons (ce_c (.str _)) ca_nil))) (ce_sl (ce_var 2) (co_some (ce_var 6)) co_none)) (cg_name 2))
      (cs_ret (ce_tup (ca_cons (ce_var 1) (ca_cons (ce_comp (ci_rng1 (ca_cons (ce_c (.int _)) ca_nil)) (cgx_name 7) ct_yes (ce_tup (ca_cons (ce_ixL (ce_var 2) (ce_var 7)) (ca_cons (ce_ixT (ce_ixL (ce_var 4) (ce_var 7)) (ce_c (.int _))) (ca_cons (ce_op (opl_I fun _ _ => .int _) (ce_op (opl_I0 fun _ _ => .int _) (ce_ixT (ce_ixL (ce_var 4) (ce_var 7)) (ce_c (.int _))) (ce_var 5)) (ce_op (opl_I fun _ _ => .int _) (ce_c (.int _)) (ce_ixT (ce_ixL (ce_var 4) (ce_var 7)) (ce_c (.int _))))) ca_nil))))) ca_nil)))))))))), fun us M M1 Qu e1 h => ?_⟩
  obtain ⟨k, o, bits, ks, rfl, em, hB, hk, hb, post⟩ := h
  obtain ⟨hkl, eM⟩ := MB_start em
  rw [e1.trans eM]
  walk_at "u"
  refine ⟨by show 2 < sizeLine; decide, ?_⟩
  have hmany : (2 : Int) ≤ 2 + (if 8 < bits then 1 else 0) ∧ (2 : Int) + (if 8 < bits then 1 else 0) ≤ 3 := by split <;> omega
  refine draw_at hkl hB (by omega) (log2_lt (by omega) (by omega)) fun d o1 d0 d1 B1 => ?_
  have hpick : ∃ t, atI [U.p (.lst (T0.map ndT)), .p (.lst (T1.map ndT)), .p (.lst (T2.map ndT))] d = some (.p (.lst (t.map ndT))) ∧ Tbl bits t := by
    rcases (show d = 0 ∨ d = 1 ∨ d = 2 by omega) with rfl | rfl | rfl
    · exact ⟨T0, rfl, .inl rfl⟩
    · exact ⟨T1, rfl, .inr (.inl rfl)⟩
    · exact ⟨T2, rfl, .inr (.inr ⟨rfl, by split at d1 <;> omega⟩)⟩
  obtain ⟨t, hat, hT⟩ := hpick
  refine ix_at (by simp only [itemsL, MB_get]; rfl) hat ?_
  refine draw_at hkl B1 (by decide) (by decide) fun mask o2 m0 m1 B2 => ?_
  have ht5 := tbl_len hT
  walk_at "u"
  refine ucomp_list (by rw [List.length_map, ht5]; decide) (fun i acc M' => M' = MB M k o2 [MO.lst [U.p (.lst (T0.map ndT)), .p (.lst (T1.map ndT)), .p (.lst (T2.map ndT))]] ∧ acc = ((t.take i).filter fun n => decide (n.1 ≤ bits - 7)).map ndT) ⟨rfl, rfl⟩ ?_ ?_
  · rintro i x acc M' hx _ ⟨rfl, rfl⟩
    obtain ⟨n, hn, rfl⟩ : ∃ n, t[i]? = some n ∧ x = ndT n := by
      rw [List.getElem?_map] at hx
      cases e : t[i]? with
      | none => rw [e] at hx; cases hx
      | some n => rw [e] at hx; cases hx; exact ⟨n, rfl, rfl⟩
    walk_at "u"
    rw [take_succ_get hn, List.filter_append, List.map_append]
    refine ite2 (fun hh => ?_) (fun hh => ?_) <;> simp [hh]
  · rintro acc M' ⟨rfl, rfl⟩
    rw [List.length_map, List.take_length]
    walk_at "u"
    have hcl : (((t.filter fun n => decide (n.1 ≤ bits - 7)).map ndT).length : Int) = (cnt bits t : Int) := by rw [List.length_map]; rfl
    rw [hcl]
    have hcp := cnt_pos hb.1 hT
    have hc5 : cnt bits t ≤ 5 := by
      have := List.length_filter_le (fun n : Nd => decide (n.1 ≤ bits - 7)) t
      rw [ht5] at this
      exact this
    refine draw_at hkl B2 (by omega) (log2_lt (by omega) (by omega)) fun α o3 α0 α1 B3 => ?_
    obtain ⟨at', rfl⟩ : ∃ j : Nat, α = (j : Int) := ⟨α.toNat, by omega⟩
    have hk4 : ks.length = 4 := hk.length_eq
    have ha4 : at' ≤ 4 := by omega
    unfold strsT
    walk_at "u"
    rw [cutT_take (by omega), cutT_drop (by omega)]
    have hright := full_right (mask := mask) hb hT m0 m1 hk (by omega) ha4
    have hlo : (ks.take at' ++ (["sign"] : List Str) ++ ks.drop at').length = 5 := by simp; omega
    have em2 : (ks.take at').map T.str ++ [T.str "sign"] ++ (ks.drop at').map T.str = (ks.take at' ++ (["sign"] : List Str) ++ ks.drop at').map T.str := by simp
    refine ⟨by simp; exact Nat.le_of_lt (small1000 (by omega)), by simp; exact Nat.le_of_lt (small1000 (by omega)), rng_at (by decide) (by decide) ?_⟩
    rw [em2]
    generalize ks.take at' ++ (["sign"] : List Str) ++ ks.drop at' = os at hright hlo ⊢
    refine ucomp_rng (by decide) (fun i acc M' => M' = MB M k o3 [MO.lst [U.p (.lst (T0.map ndT)), .p (.lst (T1.map ndT)), .p (.lst (T2.map ndT))]] ∧ acc = ((List.zipWith (fm mask) os t).take i).map markT) ⟨rfl, rfl⟩ ?_ ?_
    · rintro i acc M' hi _ ⟨rfl, rfl⟩
      have hi5 : i < 5 := hi
      have hoi : os[i]? = some (os[i]'(by omega)) := List.getElem?_eq_getElem _
      have hti : t[i]? = some (t[i]'(by omega)) := List.getElem?_eq_getElem _
      have hw := tbl_w hT _ (List.mem_of_getElem? hti)
      have hz : (List.zipWith (fm mask) os t)[i]? = some (fm mask (os[i]'(by omega)) (t[i]'(by omega))) := by
        rw [List.getElem?_zipWith, hoi, hti]
      walk_at "u"
      refine ixl_at (atT hoi) ?_
      refine ixl_at (atT hti) ?_
      walk_at "u"
      refine ixl_at (atT hti) ?_
      walk_at "u"
      refine ixl_at (atT hti) ?_
      walk_at "u"
      refine ⟨⟨by omega, by omega, by decide⟩, ?_, ?_⟩
      · rw [Int.one_mul]; exact two_pos _
      · rw [take_succ_get hz, List.map_append, Int.one_mul]
        rfl
    · rintro acc M' ⟨rfl, rfl⟩
      have e5 : (Int.toNat 5) = (List.zipWith (fm mask) os t).length := by rw [hright.n] <;> rfl
      rw [e5, List.take_length]
      walk_at "u"
      refine ⟨MB_trim B3.pur, ?_⟩
      rw [MB_take]
      exact post o3 _ B3 hright

abbrev sLaying : Stmt := top 18
theorem scLaying : FnScope ["bag", "bits", "kinds", "at", "most", "free", "marks", "kind", "some", "width", "pattern", "goal", "side", "turn"] ["bag"] (defScope sLaying) := ⟨rfl, rfl, rfl, by decide +kernel, rfl, by decide +kernel, by decide +kernel⟩
theorem ndLaying1 : (["bag", "bits", "kinds", "at", "most", "free", "marks", "kind", "some", "width", "pattern", "goal", "side", "turn", "node"] : List Str).Nodup := by decide +kernel
def gLaying : List U → MM → UK → Prop := fun us M Q => ∃ (k : Nat) (o : MO), us = [.m k] ∧ M[k]? = some o ∧ BagO o ∧ ∀ (o' : MO) (bits : Int) (ms : List Mk3), BagO o' → Right bits ms → Q (.p (layT bits ms)) (M.set k o')
abbrev mostU (bits : Int) : List (Key × U) := [(.inr "sign", .p (.int (bits - 7))), (.inr "small", .p (.int (bits - 2))), (.inr "one", .p (.int (bits - 2))), (.inr "far", .p (.int (bits - 3))), (.inr "pair", .p (.int (bits - 3)))]
theorem mostU_get {bits : Int} {kind : Str} (h : kind ∈ fiveK) : valU (mergeU [] (mostU bits)) (.inr kind) = some (.p (.int (bits - need kind))) := by
  have e : mergeU [] (mostU bits) = mostU bits := rfl
  rw [e]
  have h' : kind = "small" ∨ kind = "far" ∨ kind = "pair" ∨ kind = "sign" ∨ kind = "one" := by simpa [fiveK] using h
  rcases h' with rfl | rfl | rfl | rfl | rfl <;> rfl
theorem nd_eqT {a b : Nd} {n : Nat} : EqT (n + 1) (ndT a) (ndT b) (decide (a = b)) := by
  have h := EqT.tup (n := n) (xs := [.int a.1, .int a.2]) (ys := [.int b.1, .int b.2]) (e := fun j => if j = 0 then decide (a.1 = b.1) else decide (a.2 = b.2)) (fun j x y hx hy => by
    match j, hx, hy with
    | 0, hx, hy =>
      cases hx; cases hy
      have := EqT.flat (n := n) (a := .int a.1) (b := .int b.1) rfl rfl
      rw [show eqV (.int a.1) (.int b.1) = decide (a.1 = b.1) by simp [eqV, Bool.beq_eq_decide_eq]] at this; exact this
    | 1, hx, hy =>
      cases hx; cases hy
      have := EqT.flat (n := n) (a := .int a.2) (b := .int b.2) rfl rfl
      rw [show eqV (.int a.2) (.int b.2) = decide (a.2 = b.2) by simp [eqV, Bool.beq_eq_decide_eq]] at this; exact this
    | j + 2, hx, _ => cases hx)
  have e : ((List.range (min [T.int a.1, T.int a.2].length [T.int b.1, T.int b.2].length)).all (fun j => if j = 0 then decide (a.1 = b.1) else decide (a.2 = b.2)) && [T.int a.1, T.int a.2].length == [T.int b.1, T.int b.2].length) = decide (a = b) := by
    obtain ⟨a1, a2⟩ := a
    obtain ⟨b1, b2⟩ := b
    simp [List.range_succ]
  rw [e] at h
  exact h
theorem ok_layingU {f : Addr} {fd : FuncData} (F : Fun K "_law_laying" "_law_laying" sLaying f fd) (N : Nms mg) (DDraw : Def P w K mg base "_law_draw" 1 ["bag", "many"] (spU gDraw)) (DFullLaying : Def P w K mg base "_law_full_laying" 2 ["bag", "bits", "order"] (spU gFull)) : FnOk P w K mg base CX0 3 f fd ["bag"] (spU gLaying) := by
  refine F.zV scLaying (fun us M Qu h => ?_) (fun cdv A outer s H E hr => ?_)
  · obtain ⟨_, _, rfl, _⟩ := h
    rfl
  refine ⟨_, (qss_cons (qs_set (i := 1) scLaying.nd rfl (Or.inl rfl) (qe_ix (ix_listK (K := K) rfl) (qe_lst (qa_c qe_int (qa_c qe_int (qa_c qe_int (qa_c qe_int (qa_c qe_int (qa_c qe_int (qa_c qe_int (qa_c (qe_op op_add qe_int (qe_def DDraw (hr.mono (by first | decide | exact Nat.le_refl _)) (qa_c (qv 0) (qa_c qe_int qa_nil)))) qa_nil))))))))) (qe_def DDraw (hr.mono (by first | decide | exact Nat.le_refl _)) (qa_c (qv 0) (qa_c qe_int qa_nil))) (fun _ _ => rfl)))
    (qss_cons (qs_set (i := 2) scLaying.nd rfl (Or.inl rfl) (qe_op op_rep (qe_ix (ix_listK (K := K) rfl) (qe_lst (qa_c (qe_lst (qa_c qe_str (qa_c qe_str (qa_c qe_str (qa_c qe_str qa_nil))))) (qa_c (qe_lst (qa_c qe_str (qa_c qe_str (qa_c qe_str (qa_c qe_str qa_nil))))) qa_nil))) (qe_def DDraw (hr.mono (by first | decide | exact Nat.le_refl _)) (qa_c (qv 0) (qa_c qe_int qa_nil))) (fun _ _ => rfl)) qe_int))
    (qss_cons (qs_set (i := 3) scLaying.nd rfl (Or.inl rfl) (qe_def DDraw (hr.mono (by first | decide | exact Nat.le_refl _)) (qa_c (qv 0) (qa_c qe_int qa_nil))))
    (qss_cons (qs_if (qt_cmpR op_eq (qe_def DDraw (hr.mono (by first | decide | exact Nat.le_refl _)) (qa_c (qv 0) (qa_c qe_int qa_nil))) qe_int (nomark _))
      (qss_one (qs_ret (qe_def DFullLaying (hr.mono (by first | decide | exact Nat.le_refl _)) (qa_c (qv 0) (qa_c (qv 1) (qa_c (qe_slice (sl_listK (K := K) rfl) (qv 2) (qo_some (qv 3)) (qo_some (qe_op op_add (qv 3) qe_int))) qa_nil))))))
      qss_nil)
    (qss_cons (qs_set (i := 4) scLaying.nd rfl (Or.inr rfl) (qe_disp (qps_cons qe_str (qe_op op_sub (qv 1) qe_int) (qps_cons qe_str (qe_op op_sub (qv 1) qe_int) (qps_cons qe_str (qe_op op_sub (qv 1) qe_int) (qps_cons qe_str (qe_op op_sub (qv 1) qe_int) (qps_cons qe_str (qe_op op_sub (qv 1) qe_int) qps_nil))))) rfl rfl (fun z => nomatch z) (by decide)))
    (qss_cons (qs_set (i := 5) scLaying.nd rfl (Or.inl rfl) (qe_lst (qa_c (qe_tup (qa_c qe_int (qa_c qe_int qa_nil))) qa_nil)))
    (qss_cons (qs_set (i := 6) scLaying.nd rfl (Or.inl rfl) (qe_lst qa_nil))
    (qss_cons (qs_for PassesOwn.never rfl (qi_listK (K := K) rfl (qe_op op_cat (qe_lst (qa_c qe_str qa_nil)) (qe_slice (sl_listK (K := K) rfl) (qv 2) (qo_some (qv 3)) (qo_some (qe_op op_add (qv 3) qe_int))))) (qg_name (i := 7) scLaying.nd rfl (Or.inr rfl))
      (qss_cons (qs_lc (i := 8) [false, false, false, false, true, false, false, true, false, false, false, false, false, false] ["node"] scLaying.nd rfl rfl (qi_listK (K := K) rfl (qv 5)) (fun _ _ _ => (qg_name (i := 14) ndLaying1 rfl (Or.inl rfl))) (fun _ _ _ => qts_one (qt_cmpR op_lt (qe_ix (ix_tupK (K := K) rfl) (qv 14) qe_int (fun _ _ => rfl)) (qe_dget (hu_of hr) (qv 4) (qv 7) (fun _ _ => rfl)) (nomark _))) (fun _ _ _ => (qv 14)))
      (qss_cons (qs_asg (qe_ix (ix_listK (K := K) rfl) (qv 8) (qe_def DDraw (hr.mono (by first | decide | exact Nat.le_refl _)) (qa_c (qv 0) (qa_c (qe_callB call_lenL (by rfl) N.len b_len (qa_c (qv 8) qa_nil)) qa_nil))) (fun _ _ => rfl)) (qg_t2K (K := K) (i := 9) (j := 10) rfl scLaying.nd rfl rfl rfl (Or.inl rfl) (Or.inl rfl) (Or.inl rfl) (Or.inl rfl)))
      (qss_cons (qs_expr (qe_lm PySem.F.slot_list_remove PySem.F.type_list_remove (mt_removeK (K := K) rfl hr.units) (qv 5) (qa_c (qe_tup (qa_c (qv 9) (qa_c (qv 10) qa_nil))) qa_nil)))
      (qss_cons (qs_set (i := 11) scLaying.nd rfl (Or.inl rfl) (qe_callB (call_min2 rfl) (by rfl) N.min b_min (qa_c (qe_dget (hu_of hr) (qv 4) (qv 7) (fun _ _ => rfl)) (qa_c (qe_op op_add (qv 9) (qe_ix (ix_listK (K := K) rfl) (qe_lst (qa_c qe_int (qa_c qe_int (qa_c qe_int (qa_c qe_int (qa_c (qe_op op_add qe_int (qe_def DDraw (hr.mono (by first | decide | exact Nat.le_refl _)) (qa_c (qv 0) (qa_c qe_int qa_nil)))) qa_nil)))))) (qe_def DDraw (hr.mono (by first | decide | exact Nat.le_refl _)) (qa_c (qv 0) (qa_c qe_int qa_nil))) (fun _ _ => rfl))) qa_nil))))
      (qss_cons (qs_while PassesOwn.never (qt_cmpR op_lt (qv 9) (qv 11) (nomark _))
        (qss_cons (qs_set (i := 12) scLaying.nd rfl (Or.inl rfl) (qe_def DDraw (hr.mono (by first | decide | exact Nat.le_refl _)) (qa_c (qv 0) (qa_c qe_int qa_nil))))
        (qss_cons (qs_expr (qe_lm PySem.F.slot_list_append PySem.F.type_list_append mt_append (qv 5) (qa_c (qe_tup (qa_c (qe_op op_add (qv 9) qe_int) (qa_c (qe_op op_add (qv 10) (qe_op op_shl (qe_op op_sub qe_int (qv 12)) (qv 9))) qa_nil))) qa_nil)))
        (qss_cons (qs_set (i := 10) scLaying.nd rfl (Or.inl rfl) (qe_op op_add (qv 10) (qe_op op_shl (qv 12) (qv 9))))
        (qss_one (qs_set (i := 9) scLaying.nd rfl (Or.inl rfl) (qe_op op_add (qv 9) qe_int)))))))
      (qss_one (qs_expr (qe_lm PySem.F.slot_list_append PySem.F.type_list_append mt_append (qv 6) (qa_c (qe_tup (qa_c (qv 7) (qa_c (qv 9) (qa_c (qv 10) qa_nil)))) qa_nil))))))))))
    (qss_cons (qs_set (i := 13) scLaying.nd rfl (Or.inl rfl) (qe_def DDraw (hr.mono (by first | decide | exact Nat.le_refl _)) (qa_c (qv 0) (qa_c qe_int qa_nil))))
    (qss_one (qs_ret (qe_tup (qa_c (qv 1) (qa_c (qe_op op_cat (qe_slice (sl_listK (K := K) rfl) (qv 6) (qo_some (qv 13)) qo_none) (qe_slice (sl_listK (K := K) rfl) (qv 6) qo_none (qo_some (qv 13)))) qa_nil)))))))))))))), _, (cs_seq (cs_asg (ce_ixL (ce_lst (ca_cons (ce_c (.int _)) (ca_cons (ce_c (.int _)) (ca_cons (ce_c (.int _)) (ca_cons (ce_c (.int _)) (ca_cons (ce_c (.int _)) (ca_cons (ce_c (.int _)) (ca_cons (ce_c (.int _)) (ca_cons (ce_op (opl_I0 fun _ _ => .int _) (ce_c (.int _)) (ce_callU (ca_cons (ce_var 0) (ca_cons (ce_c (.int _)) ca_nil)))) ca_nil))))))))) (ce_callU (ca_cons (ce_var 0) (ca_cons (ce_c (.int _)) ca_nil)))) (cg_name 1))
      (cs_seq (cs_asg (ce_op opl_rep (ce_ixL (ce_lst (ca_cons (ce_lst (ca_cons (ce_c (.str _)) (ca_cons (ce_c (.str _)) (ca_cons (ce_c (.str _)) (ca_cons (ce_c (.str _)) ca_nil))))) (ca_cons (ce_lst (ca_cons (ce_c (.str _)) (ca_cons (ce_c (.str _)) (ca_cons (ce_c (.str _)) (ca_cons (ce_c (.str _)) ca_nil))))) ca_nil))) (ce_callU (ca_cons (ce_var 0) (ca_cons (ce_c (.int _)) ca_nil)))) (ce_c (.int _))) (cg_name 2))
      (cs_seq (cs_asg (ce_callU (ca_cons (ce_var 0) (ca_cons (ce_c (.int _)) ca_nil))) (cg_name 3))
      (cs_seq (cs_if (ct_test (ce_op opl_eq (ce_callU (ca_cons (ce_var 0) (ca_cons (ce_c (.int _)) ca_nil))) (ce_c (.int _))))
      (cs_ret (ce_callU (ca_cons (ce_var 0) (ca_cons (ce_var 1) (ca_cons (ce_sl (ce_var 2) (co_some (ce_var 3)) (co_some (ce_op (opl_I0 fun _ _ => .int _) (ce_var 3) (ce_c (.int _))))) ca_nil)))))
      cs_next)
      (cs_seq (cs_asg (ce_disp (cp_cons (ce_c (.str _)) (ce_op (opl_I0 fun _ _ => .int _) (ce_var 1) (ce_c (.int _))) (cp_cons (ce_c (.str _)) (ce_op (opl_I0 fun _ _ => .int _) (ce_var 1) (ce_c (.int _))) (cp_cons (ce_c (.str _)) (ce_op (opl_I0 fun _ _ => .int _) (ce_var 1) (ce_c (.int _))) (cp_cons (ce_c (.str _)) (ce_op (opl_I0 fun _ _ => .int _) (ce_var 1) (ce_c (.int _))) (cp_cons (ce_c (.str _)) (ce_op (opl_I0 fun _ _ => .int _) (ce_var 1) (ce_c (.int _))) cp_nil)))))) (cg_name 4))
      (cs_seq (cs_asg (ce_new (ca_cons (ce_tup (ca_cons (ce_c (.int _)) (ca_cons (ce_c (.int _)) ca_nil))) ca_nil)) (cg_name 5))
      (cs_seq (cs_asg (ce_new ca_nil) (cg_name 6))
      (cs_seq (cs_for (ci_list (ce_op opl_cat (ce_lst (ca_cons (ce_c (.str _)) ca_nil)) (ce_sl (ce_var 2) (co_some (ce_var 3)) (co_some (ce_op (opl_I0 fun _ _ => .int _) (ce_var 3) (ce_c (.int _))))))) (cg_name 7)
      (cs_seq (cs_asg (ce_comp (ci_list (ce_var 5)) (cgx_name 14) (ct_test (ce_op (opl_I0 fun _ _ => .bl _) (ce_ixT (ce_var 14) (ce_c (.int _))) (ce_dget (ce_var 4) (ce_var 7)))) (ce_var 14)) (cg_name 8))
      (cs_seq (cs_asg (ce_ixL (ce_var 8) (ce_callU (ca_cons (ce_var 0) (ca_cons (ce_len (ca_cons (ce_var 8) ca_nil)) ca_nil)))) (cg_name2 9 10))
      (cs_seq (cs_drop (ce_me mel_remove (ce_var 5) (ca_cons (ce_tup (ca_cons (ce_var 9) (ca_cons (ce_var 10) ca_nil))) ca_nil)))
      (cs_seq (cs_asg (ce_cb cbl_min (ca_cons (ce_dget (ce_var 4) (ce_var 7)) (ca_cons (ce_op (opl_I0 fun _ _ => .int _) (ce_var 9) (ce_ixL (ce_lst (ca_cons (ce_c (.int _)) (ca_cons (ce_c (.int _)) (ca_cons (ce_c (.int _)) (ca_cons (ce_c (.int _)) (ca_cons (ce_op (opl_I0 fun _ _ => .int _) (ce_c (.int _)) (ce_callU (ca_cons (ce_var 0) (ca_cons (ce_c (.int _)) ca_nil)))) ca_nil)))))) (ce_callU (ca_cons (ce_var 0) (ca_cons (ce_c (.int _)) ca_nil))))) ca_nil))) (cg_name 11))
      (cs_seq (cs_while (ct_test (ce_op (opl_I0 fun _ _ => .bl _) (ce_var 9) (ce_var 11)))
      (cs_seq (cs_asg (ce_callU (ca_cons (ce_var 0) (ca_cons (ce_c (.int _)) ca_nil))) (cg_name 12))
      (cs_seq (cs_drop (ce_me mel_append (ce_var 5) (ca_cons (ce_tup (ca_cons (ce_op (opl_I0 fun _ _ => .int _) (ce_var 9) (ce_c (.int _))) (ca_cons (ce_op (opl_I0 fun _ _ => .int _) (ce_var 10) (ce_op (opl_I fun _ _ => .int _) (ce_op (opl_I0 fun _ _ => .int _) (ce_c (.int _)) (ce_var 12)) (ce_var 9))) ca_nil))) ca_nil)))
      (cs_seq (cs_asg (ce_op (opl_I0 fun _ _ => .int _) (ce_var 10) (ce_op (opl_I fun _ _ => .int _) (ce_var 12) (ce_var 9))) (cg_name 10))
      (cs_asg (ce_op (opl_I0 fun _ _ => .int _) (ce_var 9) (ce_c (.int _))) (cg_name 9))))))
      (cs_drop (ce_me mel_append (ce_var 6) (ca_cons (ce_tup (ca_cons (ce_var 7) (ca_cons (ce_var 9) (ca_cons (ce_var 10) ca_nil)))) ca_nil)))))))))
      (cs_seq (cs_asg (ce_callU (ca_cons (ce_var 0) (ca_cons (ce_c (.int _)) ca_nil))) (cg_name 13))
      (cs_ret (ce_tup (ca_cons (ce_var 1) (ca_cons (ce_op opl_cat (ce_sl (ce_var 6) (co_some (ce_var 13)) co_none) (ce_sl (ce_var 6) co_none (co_some (ce_var 13)))) ca_nil))))))))))))), fun us M M1 Qu e1 h => ?_⟩
  obtain ⟨k, o, rfl, em, hB, post⟩ := h
  obtain ⟨hkl, eM⟩ := MB_start em
  rw [e1.trans eM]
  walk_at "u"
  refine draw_at hkl hB (by decide) (by decide) fun e o1 e0 e1 B1 => ?_
  walk_at "u"
  refine draw_at hkl B1 (by decide) (by decide) fun d o2 d0 d1 B2 => ?_
  have hbits : ∃ bits : Int, atI [T.int 8, .int 9, .int 10, .int 12, .int 16, .int 24, .int 32, .int (8 + e)] d = some (.int bits) ∧ 8 ≤ bits ∧ bits ≤ 32 := by
    rcases (show d = 0 ∨ d = 1 ∨ d = 2 ∨ d = 3 ∨ d = 4 ∨ d = 5 ∨ d = 6 ∨ d = 7 by omega) with rfl | rfl | rfl | rfl | rfl | rfl | rfl | rfl
    · exact ⟨_, rfl, by decide, by decide⟩
    · exact ⟨_, rfl, by decide, by decide⟩
    · exact ⟨_, rfl, by decide, by decide⟩
    · exact ⟨_, rfl, by decide, by decide⟩
    · exact ⟨_, rfl, by decide, by decide⟩
    · exact ⟨_, rfl, by decide, by decide⟩
    · exact ⟨_, rfl, by decide, by decide⟩
    · exact ⟨_, rfl, by omega, by omega⟩
  obtain ⟨bits, hbt, hb0, hb1⟩ := hbits
  refine ixl_at hbt ?_
  walk_at "u"
  refine draw_at hkl B2 (by decide) (by decide) fun d2 o3 d20 d21 B3 => ?_
  obtain ⟨L, hat2, hL⟩ : ∃ L, atI [strsT L0, strsT L1] d2 = some (strsT L) ∧ (L = L0 ∨ L = L1) := by
    rcases (show d2 = 0 ∨ d2 = 1 by omega) with rfl | rfl
    · exact ⟨L0, rfl, .inl rfl⟩
    · exact ⟨L1, rfl, .inr rfl⟩
  refine ixl_at hat2 ?_
  walk_at "u"
  have hL8 : (L ++ L).length = 8 := by rcases hL with rfl | rfl <;> rfl
  refine ⟨L.map T.str, 2, rfl, rfl, by decide, by decide, (by rcases hL with rfl | rfl <;> (show 4 * 2 ≤ sizeLine; decide)), ?_⟩
  have hflat : (List.replicate (2 : Int).toNat (L.map T.str)).flatten = (L ++ L).map T.str := by rcases hL with rfl | rfl <;> rfl
  rw [hflat]
  refine draw_at hkl B3 (by decide) (by decide) fun α o4 α0 α1 B4 => ?_
  obtain ⟨at', rfl⟩ : ∃ j : Nat, α = (j : Int) := ⟨α.toNat, by omega⟩
  have ha : at' < 4 := by omega
  have hrp := rot_perm (α := at') hL ha
  have hrl : (rot L at').length = 4 := hrp.length_eq
  have hcut : cutT ((L ++ L).map T.str) (some (at' : Int)) (some ((at' : Int) + 4)) = (rot L at').map T.str := by
    have e4 : (at' : Int) + 4 = ((at' + 4 : Nat) : Int) := by omega
    rw [e4, cutT_map (by omega) (by omega), show at' + 4 - at' = 4 by omega]
    rfl
  walk_at "u"
  refine draw_at hkl B4 (by decide) (by decide) fun d4 o5 d40 d41 B5 => ?_
  walk_at "u"
  rw [hcut]
  refine ite2 (fun _ => ?_) (fun _ => ?_)
  · refine ⟨k, o5, bits, rot L at', rfl, MB_bag hkl, B5, hrp, ⟨hb0, hb1⟩, fun o6 ms B6 hR => ?_⟩
    rw [MB_setbag hkl]
    walk_at "u"
    refine ⟨MB_trim B6.pur, ?_⟩
    rw [MB_take]
    exact post o6 bits ms B6 hR
  simp only [uDisp]
  walk_at "u"
  refine ⟨mostU bits, rfl, by show 5 ≤ 15; decide, ?_⟩
  refine ⟨by simp [hrl]; exact Nat.le_of_lt (small1000 (by decide)), ?_⟩
  refine ufor_list (ts := ((("sign" : Str) :: rot L at').map T.str)) (fun i ρ M' => ∃ (o : MO) (ns : List Nd) (ms : List Mk3) (x7 x8 x9 x10 x11 x12 x13 : Option U), ρ = [some (.m k), some (.p (.int bits)), some (.p (.lst ((L ++ L).map T.str))), some (.p (.int at')), some (.m (M.length + 0)), some (.m (M.length + 1)), some (.m (M.length + 2)), x7, x8, x9, x10, x11, x12, x13] ∧ M' = MB M k o [.dK (mergeU [] (mostU bits)), .lst ((ns.map ndT).map U.p), .lst ((ms.map markT).map U.p)] ∧ BagO o ∧ LInv bits (("sign" : Str) :: rot L at') i ns ms) ?_ ?_ ?_
  · refine ⟨o5, [(0, 0)], [], _, _, _, _, _, _, _, rfl, rfl, B5, ⟨?_, ⟨(0, 0), by simp, by decide⟩, by decide, rfl, (fun _ h => nomatch h), (fun _ h => nomatch h), by simp⟩⟩
    intro n hn
    rw [List.mem_singleton.mp hn]
    exact ⟨by decide, by decide, by decide, by decide⟩
  · rintro i y ρ M' hi ⟨o, ns, ms, x7, x8, x9, x10, x11, x12, x13, rfl, rfl, B6, LI⟩
    obtain ⟨kind, hki, rfl⟩ := get_map hi
    obtain ⟨hlow, hk5, hi5⟩ := ks_low hb0 hrp hki
    have hval := mostU_get (bits := bits) hk5
    have hneed := need_ge kind
    have hnl := LI.len
    walk_at "u"
    refine iter_at (MB_get0 rfl) ?_
    refine ucomp_mut (by rw [List.length_map]; exact Nat.le_of_lt (small1000 (by omega))) (fun j acc M2 => M2 = MB M k o [.dK (mergeU [] (mostU bits)), .lst ((ns.map ndT).map U.p), .lst ((ms.map markT).map U.p)] ∧ acc = ((ns.take j).filter fun n => decide (n.1 < bits - need kind)).map ndT) ⟨rfl, rfl⟩ (fun j acc M2 ⟨e, _⟩ => by rw [e]; exact MB_get0 rfl) ?_ ?_
    · rintro j y acc M2 hj _ ⟨rfl, rfl⟩
      obtain ⟨n, hn, rfl⟩ := get_map hj
      walk_at "u"
      refine dgetS_at (MB_get0 rfl) hval ?_
      walk_at "u"
      rw [take_succ_get hn, List.filter_append, List.map_append]
      refine ite2 (fun hh => ?_) (fun hh => ?_) <;> simp [hh]
    · rintro acc M2 ⟨rfl, rfl⟩
      rw [List.length_map, List.take_length]
      generalize hfs : (ns.filter fun n => decide (n.1 < bits - need kind)) = fs
      have hpos : 0 < fs.length := by
        obtain ⟨n, hn, hw⟩ := LI.low
        have : n ∈ fs := by rw [← hfs]; exact List.mem_filter.mpr ⟨hn, by simp; omega⟩
        exact List.length_pos_of_mem this
      have hfl : fs.length ≤ 200 := by
        rw [← hfs]
        have := List.length_filter_le (fun n : Nd => decide (n.1 < bits - need kind)) ns
        omega
      walk_at "u"
      rw [List.length_map]
      refine draw_at hkl B6 (by omega) (log2_lt (by omega) (by omega)) fun d o7 d0 d1 B7 => ?_
      obtain ⟨jj, rfl⟩ : ∃ j : Nat, d = (j : Int) := ⟨d.toNat, by omega⟩
      have hjj : fs[jj]? = some (fs[jj]'(by omega)) := List.getElem?_eq_getElem _
      generalize fs[jj]'(by omega) = n at hjj
      have hnf := List.mem_filter.mp (show n ∈ ns.filter fun n => decide (n.1 < bits - need kind) by rw [hfs]; exact List.mem_of_getElem? hjj)
      have hnw : n.1 < bits - need kind := by simpa using hnf.2
      have hnok := LI.ok n hnf.1
      refine ixl_at (atT hjj) ?_
      walk_at "u"
      obtain ⟨j, hj, hjm⟩ := first_at hnf.1
      have hjl := (List.getElem?_eq_some_iff.mp hj).1
      refine ⟨ns.map ndT, ndT n, j, fun m => decide (ns[m]? = some n), rfl, rfl, by rw [List.length_map]; exact hjl, by simp [hj], fun m hm => by simp [hjm m hm], fun m z hm hz => ?_, ?_⟩
      · obtain ⟨nm, hnm, rfl⟩ := get_map hz
        have e9 : decide (ns[m]? = some n) = decide (nm = n) := by
          rw [hnm]
          by_cases e : nm = n <;> simp [e]
        show EqT 20 _ _ (decide (ns[m]? = some n))
        rw [e9]
        exact nd_eqT
      have W0 := LI.pick hj
      rw [← map_erase]
      walk_at "u"
      refine dgetS_at (MB_get0 rfl) hval ?_
      walk_at "u"
      refine draw_at hkl B7 (by decide) (by decide) fun e o8 e0 e1 B8 => ?_
      walk_at "u"
      refine draw_at hkl B8 (by decide) (by decide) fun d5 o9 d50 d51 B9 => ?_
      have hdel : ∃ δ : Int, atI [T.int 1, .int 1, .int 2, .int 3, .int (1 + e)] d5 = some (.int δ) ∧ 1 ≤ δ ∧ δ ≤ 30 := by
        rcases (show d5 = 0 ∨ d5 = 1 ∨ d5 = 2 ∨ d5 = 3 ∨ d5 = 4 by omega) with rfl | rfl | rfl | rfl | rfl
        · exact ⟨_, rfl, by decide, by decide⟩
        · exact ⟨_, rfl, by decide, by decide⟩
        · exact ⟨_, rfl, by decide, by decide⟩
        · exact ⟨_, rfl, by decide, by decide⟩
        · exact ⟨_, rfl, by omega, by omega⟩
      obtain ⟨δ, hδ, δ0, δ1⟩ := hdel
      refine ixl_at hδ ?_
      walk_at "u"
      obtain ⟨g, hgE, hg1, hg2⟩ : ∃ g : Int, (if n.1 + δ < bits - need kind then n.1 + δ else bits - need kind) = g ∧ n.1 < g ∧ g ≤ bits - need kind := ⟨_, rfl, by split <;> omega, by split <;> omega⟩
      rw [hgE]
      have hn0' := hnok.1
      refine ⟨fun m ρ M' => ∃ (o : MO) (c : Nd) (ns2 : List Nd) (x12 : Option U), m = (g - c.1).toNat ∧ ρ = [some (.m k), some (.p (.int bits)), some (.p (.lst ((L ++ L).map T.str))), some (.p (.int at')), some (.m (M.length + 0)), some (.m (M.length + 1)), some (.m (M.length + 2)), some (.p (.str kind)), some (.p (.lst (fs.map ndT))), some (.p (.int c.1)), some (.p (.int c.2)), some (.p (.int g)), x12, x13] ∧ M' = MB M k o [.dK (mergeU [] (mostU bits)), .lst ((ns2.map ndT).map U.p), .lst ((ms.map markT).map U.p)] ∧ BagO o ∧ c.1 ≤ g ∧ WInv i n.1 c ns2 ms, ⟨_, o9, n, ns.eraseIdx j, _, rfl, rfl, rfl, B9, by omega, W0⟩, ?_⟩
      rintro m ρ M' ⟨o10, c, ns2, y12, rfl, rfl, rfl, B10, hcg, WI⟩
      have hcok := WI.cok
      have hwl := WI.len
      have hww := WI.w
      have hc0 := hcok.1
      walk_at "u"
      refine ite2 (fun hlt => ?_) (fun hge => ?_)
      · refine ⟨fun ρ'' M'' => ∃ m', m' < (g - c.1).toNat ∧ ∃ (o : MO) (c : Nd) (ns2 : List Nd) (x12 : Option U), m' = (g - c.1).toNat ∧ ρ'' = [some (.m k), some (.p (.int bits)), some (.p (.lst ((L ++ L).map T.str))), some (.p (.int at')), some (.m (M.length + 0)), some (.m (M.length + 1)), some (.m (M.length + 2)), some (.p (.str kind)), some (.p (.lst (fs.map ndT))), some (.p (.int c.1)), some (.p (.int c.2)), some (.p (.int g)), x12, x13] ∧ M'' = MB M k o [.dK (mergeU [] (mostU bits)), .lst ((ns2.map ndT).map U.p), .lst ((ms.map markT).map U.p)] ∧ BagO o ∧ c.1 ≤ g ∧ WInv i n.1 c ns2 ms, fun _ _ h => h, ?_⟩
        walk_at "u"
        refine draw_at hkl B10 (by decide) (by decide) fun sd o11 s0 s1 B11 => ?_
        walk_at "u"
        refine ⟨⟨by omega, by omega, by omega⟩, ?_⟩
        walk_at "u"
        refine ⟨by rw [List.length_map, List.length_map]; exact small1000 (by omega), ?_⟩
        refine ⟨⟨by omega, by omega, by omega⟩, ?_⟩
        refine ⟨(g - (c.1 + 1)).toNat, by omega, o11, child c sd, ns2 ++ [child c (1 - sd)], _, rfl, rfl, ?_, B11, by show c.1 + 1 ≤ g; omega, WI.step (by omega) (by omega)⟩
        rw [List.map_append, List.map_append]
        rfl
      · have hce : c.1 = g := by omega
        walk_at "u"
        have h2 := congrArg List.length LI.kinds
        rw [List.length_map, List.length_take] at h2
        refine ⟨by rw [List.length_map, List.length_map]; exact small1000 (by omega), ?_⟩
        refine ⟨o10, ns2, ms ++ [(kind, c)], _, _, _, _, _, _, _, rfl, ?_, B10, WI.fin LI hki hce (by omega) (by omega) (by omega) (by omega)⟩
        rw [List.map_append, List.map_append]
        rfl
  · rintro ρ M' ⟨o, ns, ms, x7, x8, x9, x10, x11, x12, x13, rfl, rfl, B6, LI⟩
    have h5 : ((("sign" : Str) :: rot L at').map T.str).length = 5 := by simp [hrl]
    rw [h5] at LI
    have hKp : (("sign" : Str) :: rot L at').Perm fiveK := (List.Perm.cons _ hrp).trans (by decide +kernel)
    have hR := LI.right hKp ⟨hb0, hb1⟩
    have hn5 := hR.n
    walk_at "u"
    refine draw_at hkl B6 (by decide) (by decide) fun tu o7 t0 t1 B7 => ?_
    obtain ⟨tn, rfl⟩ : ∃ j : Nat, tu = (j : Int) := ⟨tu.toNat, by omega⟩
    walk_at "u"
    refine slm_at (MB_get0 rfl) ?_
    refine slm_at (MB_get0 rfl) ?_
    rw [cutT_drop (by omega), cutT_take (by omega)]
    walk_at "u"
    have pm : ms.Perm (ms.drop tn ++ ms.take tn) := by
      have := List.perm_append_comm (l₁ := ms.take tn) (l₂ := ms.drop tn)
      rw [List.take_append_drop] at this
      exact this
    refine ⟨by simp; exact Nat.le_of_lt (small1000 (by omega)), MB_trim B7.pur, ?_⟩
    rw [MB_take, ← List.map_append]
    exact post o7 bits _ B7 (hR.of_perm pm)

def gMark : List T → (T → Prop) → Prop := fun ts Q => ∃ (bits : Int) (ms : List Mk3) (kind : Str) (m : Mk3), ts = [layT bits ms, .str kind] ∧ ms.length ≤ 900 ∧ OfKind ms kind m ∧ Q (markT m)
def gLoad : List T → (T → Prop) → Prop := fun ts Q => ∃ (bits : Int) (ms : List Mk3) (kind : Str) (m : Mk3), ts = [layT bits ms, .str kind] ∧ ms.length ≤ 900 ∧ OfKind ms kind m ∧ Q (.int (bits - m.2.1))
abbrev sMarkFor : Stmt := top 3
theorem scMarkFor : FnScope ["laying", "kind"] ["laying", "kind"] (defScope sMarkFor) := ⟨rfl, rfl, rfl, by decide +kernel, rfl, by decide +kernel, by decide +kernel⟩
theorem ndMarkFor1 : (["laying", "kind", "mark"] : List Str).Nodup := by decide +kernel
theorem ok_mark_forU {f : Addr} {fd : FuncData} (F : Fun K "mark_for" "mark_for" sMarkFor f fd) : FnOk P w K mg base CX0 1 f fd ["laying", "kind"] (spP gMark) := by
  refine F.zP scMarkFor (fun ts Qt h => ?_) (fun cdv A outer s H E hr => ?_)
  · obtain ⟨_, _, _, _, rfl, _⟩ := h
    rfl
  refine ⟨_, (qss_one (qs_ret (qe_ix (ix_listK (K := K) rfl) (qe_lc [false, true] ["mark"] (qi_listK (K := K) rfl (qe_ix (ix_tupK (K := K) rfl) (qv 0) qe_int (fun _ _ => rfl))) (fun _ _ _ => (qg_name (i := 2) ndMarkFor1 rfl (Or.inl rfl))) (fun _ _ _ => qts_one (qt_cmpR op_eq (qe_ix (ix_tupK (K := K) rfl) (qv 2) qe_int (fun _ _ => rfl)) (qv 1) (nomark _))) (fun _ _ _ => (qv 2))) qe_int (fun _ _ => rfl)))), _, (cs_ret (ce_ixL (ce_comp (ci_list (ce_ixT (ce_var 0) (ce_c (.int _)))) (cgx_name 2) (ct_test (ce_op opl_eq (ce_ixT (ce_var 2) (ce_c (.int _))) (ce_var 1))) (ce_var 2)) (ce_c (.int _)))), fun ts Qt h => ?_⟩
  obtain ⟨bits, ms, kind, m, rfl, hl, ⟨rest, hm⟩, q⟩ := h
  walk_at "u"
  refine ucomp_list (by rw [List.length_map]; exact Nat.le_of_lt (small1000 (by omega))) (fun i acc M' => M' = [] ∧ acc = ((ms.take i).filter fun m => decide (m.1 = kind)).map markT) ⟨rfl, rfl⟩ ?_ ?_
  · rintro i x acc M' hx _ ⟨rfl, rfl⟩
    obtain ⟨n, hn, rfl⟩ := get_map hx
    walk_at "u"
    rw [take_succ_get hn, List.filter_append, List.map_append]
    refine ite2 (fun hh => ?_) (fun hh => ?_) <;> simp [hh]
  · rintro acc M' ⟨rfl, rfl⟩
    rw [List.length_map, List.take_length, hm]
    walk_at "u"
    exact q
abbrev sMark : Stmt := top 20
theorem scMark : FnScope ["laying", "kind"] ["laying", "kind"] (defScope sMark) := ⟨rfl, rfl, rfl, by decide +kernel, rfl, by decide +kernel, by decide +kernel⟩
theorem ndMark1 : (["laying", "kind", "one"] : List Str).Nodup := by decide +kernel
theorem ok_law_markU {f : Addr} {fd : FuncData} (F : Fun K "_law_mark" "_law_mark" sMark f fd) : FnOk P w K mg base CX0 1 f fd ["laying", "kind"] (spP gMark) := by
  refine F.zP scMark (fun ts Qt h => ?_) (fun cdv A outer s H E hr => ?_)
  · obtain ⟨_, _, _, _, rfl, _⟩ := h
    rfl
  refine ⟨_, (qss_one (qs_ret (qe_ix (ix_listK (K := K) rfl) (qe_lc [false, true] ["one"] (qi_listK (K := K) rfl (qe_ix (ix_tupK (K := K) rfl) (qv 0) qe_int (fun _ _ => rfl))) (fun _ _ _ => (qg_name (i := 2) ndMark1 rfl (Or.inl rfl))) (fun _ _ _ => qts_one (qt_cmpR op_eq (qe_ix (ix_tupK (K := K) rfl) (qv 2) qe_int (fun _ _ => rfl)) (qv 1) (nomark _))) (fun _ _ _ => (qv 2))) qe_int (fun _ _ => rfl)))), _, (cs_ret (ce_ixL (ce_comp (ci_list (ce_ixT (ce_var 0) (ce_c (.int _)))) (cgx_name 2) (ct_test (ce_op opl_eq (ce_ixT (ce_var 2) (ce_c (.int _))) (ce_var 1))) (ce_var 2)) (ce_c (.int _)))), fun ts Qt h => ?_⟩
  obtain ⟨bits, ms, kind, m, rfl, hl, ⟨rest, hm⟩, q⟩ := h
  walk_at "u"
  refine ucomp_list (by rw [List.length_map]; exact Nat.le_of_lt (small1000 (by omega))) (fun i acc M' => M' = [] ∧ acc = ((ms.take i).filter fun m => decide (m.1 = kind)).map markT) ⟨rfl, rfl⟩ ?_ ?_
  · rintro i x acc M' hx _ ⟨rfl, rfl⟩
    obtain ⟨n, hn, rfl⟩ := get_map hx
    walk_at "u"
    rw [take_succ_get hn, List.filter_append, List.map_append]
    refine ite2 (fun hh => ?_) (fun hh => ?_) <;> simp [hh]
  · rintro acc M' ⟨rfl, rfl⟩
    rw [List.length_map, List.take_length, hm]
    walk_at "u"
    exact q
abbrev sLoadBits : Stmt := top 4
theorem scLoadBits : FnScope ["laying", "kind"] ["laying", "kind"] (defScope sLoadBits) := ⟨rfl, rfl, rfl, by decide +kernel, rfl, by decide +kernel, by decide +kernel⟩
theorem ok_load_bitsU {f : Addr} {fd : FuncData} (F : Fun K "load_bits" "load_bits" sLoadBits f fd) (DMarkFor : Def P w K mg base "mark_for" 1 ["laying", "kind"] (spP gMark)) : FnOk P w K mg base CX0 2 f fd ["laying", "kind"] (spP gLoad) := by
  refine F.zP scLoadBits (fun ts Qt h => ?_) (fun cdv A outer s H E hr => ?_)
  · obtain ⟨_, _, _, _, rfl, _⟩ := h
    rfl
  refine ⟨_, (qss_one (qs_ret (qe_op op_sub (qe_ix (ix_tupK (K := K) rfl) (qv 0) qe_int (fun _ _ => rfl)) (qe_ix (ix_tupK (K := K) rfl) (qe_def DMarkFor (hr.mono (by first | decide | exact Nat.le_refl _)) (qa_c (qv 0) (qa_c (qv 1) qa_nil))) qe_int (fun _ _ => rfl))))), _, (cs_ret (ce_op (opl_I0 fun _ _ => .int _) (ce_ixT (ce_var 0) (ce_c (.int _))) (ce_ixT (ce_callP (ca_cons (ce_var 0) (ca_cons (ce_var 1) ca_nil))) (ce_c (.int _))))), fun ts Qt h => ?_⟩
  obtain ⟨bits, ms, kind, m, rfl, hl, hm, q⟩ := h
  walk_at "u"
  refine ⟨bits, ms, kind, m, rfl, hl, hm, ?_⟩
  walk_at "u"
  exact q
abbrev sLoad : Stmt := top 21
theorem scLoad : FnScope ["laying", "kind"] ["laying", "kind"] (defScope sLoad) := ⟨rfl, rfl, rfl, by decide +kernel, rfl, by decide +kernel, by decide +kernel⟩
theorem ok_law_loadU {f : Addr} {fd : FuncData} (F : Fun K "_law_load" "_law_load" sLoad f fd) (DMark : Def P w K mg base "_law_mark" 1 ["laying", "kind"] (spP gMark)) : FnOk P w K mg base CX0 2 f fd ["laying", "kind"] (spP gLoad) := by
  refine F.zP scLoad (fun ts Qt h => ?_) (fun cdv A outer s H E hr => ?_)
  · obtain ⟨_, _, _, _, rfl, _⟩ := h
    rfl
  refine ⟨_, (qss_one (qs_ret (qe_op op_sub (qe_ix (ix_tupK (K := K) rfl) (qv 0) qe_int (fun _ _ => rfl)) (qe_ix (ix_tupK (K := K) rfl) (qe_def DMark (hr.mono (by first | decide | exact Nat.le_refl _)) (qa_c (qv 0) (qa_c (qv 1) qa_nil))) qe_int (fun _ _ => rfl))))), _, (cs_ret (ce_op (opl_I0 fun _ _ => .int _) (ce_ixT (ce_var 0) (ce_c (.int _))) (ce_ixT (ce_callP (ca_cons (ce_var 0) (ca_cons (ce_var 1) ca_nil))) (ce_c (.int _))))), fun ts Qt h => ?_⟩
  obtain ⟨bits, ms, kind, m, rfl, hl, hm, q⟩ := h
  walk_at "u"
  refine ⟨bits, ms, kind, m, rfl, hl, hm, ?_⟩
  walk_at "u"
  exact q

abbrev sKindsOn : Stmt := top 1
theorem scKindsOn : FnScope ["marks", "word"] ["marks", "word"] (defScope sKindsOn) := ⟨rfl, rfl, rfl, by decide +kernel, rfl, by decide +kernel, by decide +kernel⟩
theorem ndKindsOn1 : (["marks", "word", "kind", "width", "pattern"] : List Str).Nodup := by decide +kernel
def gKindsOn : List T → (T → Prop) → Prop := fun ts Q => ∃ (ms : List Mk3) (word : Int), ts = [.lst (ms.map markT), .int word] ∧ Wd ms ∧ ms.length ≤ 900 ∧ Q (strsT ((ms.filter (on word)).map (·.1)))
theorem ok_kinds_onU {f : Addr} {fd : FuncData} (F : Fun K "kinds_on" "kinds_on" sKindsOn f fd) : FnOk P w K mg base CX0 1 f fd ["marks", "word"] (spP gKindsOn) := by
  refine F.zP scKindsOn (fun ts Qt h => ?_) (fun cdv A outer s H E hr => ?_)
  · obtain ⟨_, _, rfl, _⟩ := h
    rfl
  refine ⟨_, (qss_one (qs_ret (qe_lc [false, true] ["kind", "width", "pattern"] (qi_listK (K := K) rfl (qv 0)) (fun _ _ _ => (qg_t3K (K := K) (i := 2) (j := 3) (k := 4) rfl ndKindsOn1 rfl rfl rfl rfl (Or.inl rfl) (Or.inl rfl) (Or.inl rfl) (Or.inr rfl) (Or.inr rfl) (Or.inr rfl))) (fun _ _ _ => qts_one (qt_cmpR op_eq (qe_op op_mod (qv 1) (qe_op op_shl qe_int (qv 3))) (qv 4) (nomark _))) (fun _ _ _ => (qv 2))))), _, (cs_ret (ce_comp (ci_list (ce_var 0)) (cgx_name3 2 3 4) (ct_test (ce_op opl_eq (ce_op (opl_I fun _ _ => .int _) (ce_var 1) (ce_op (opl_I fun _ _ => .int _) (ce_c (.int _)) (ce_var 3))) (ce_var 4))) (ce_var 2))), fun ts Qt h => ?_⟩
  obtain ⟨ms, word, rfl, hw, hl, q⟩ := h
  walk_at "u"
  refine ucomp_list (by rw [List.length_map]; exact Nat.le_of_lt (small1000 (by omega))) (fun i acc M' => M' = [] ∧ acc = (((ms.take i).filter (on word)).map (·.1)).map T.str) ⟨rfl, rfl⟩ ?_ ?_
  · rintro i x acc M' hx _ ⟨rfl, rfl⟩
    obtain ⟨m, hm, rfl⟩ := get_map hx
    have hmw := hw m (List.mem_of_getElem? hm)
    walk_at "u"
    refine ⟨⟨by omega, by omega, by decide⟩, ?_, ?_⟩
    · rw [Int.one_mul]; exact two_pos _
    rw [take_succ_get hm, List.filter_append, List.map_append, List.map_append, Int.one_mul]
    refine ite2 (fun hh => ?_) (fun hh => ?_) <;> simp [on, hh]
  · rintro acc M' ⟨rfl, rfl⟩
    rw [List.length_map, List.take_length]
    walk_at "u"
    exact q
abbrev sMarkOf : Stmt := top 2
theorem scMarkOf : FnScope ["laying", "word", "kinds"] ["laying", "word"] (defScope sMarkOf) := ⟨rfl, rfl, rfl, by decide +kernel, rfl, by decide +kernel, by decide +kernel⟩
def markOfT (word : Int) (ms : List Mk3) : T := match ms.filter (on word) with
  | [] => .non
  | m :: _ => .str m.1
def gMarkOf : List T → (T → Prop) → Prop := fun ts Q => ∃ (bits : Int) (ms : List Mk3) (word : Int), ts = [layT bits ms, .int word] ∧ Wd ms ∧ ms.length ≤ 900 ∧ Q (markOfT word ms)
theorem ok_mark_ofU {f : Addr} {fd : FuncData} (F : Fun K "mark_of" "mark_of" sMarkOf f fd) (DKindsOn : Def P w K mg base "kinds_on" 1 ["marks", "word"] (spP gKindsOn)) : FnOk P w K mg base CX0 2 f fd ["laying", "word"] (spP gMarkOf) := by
  refine F.zP scMarkOf (fun ts Qt h => ?_) (fun cdv A outer s H E hr => ?_)
  · obtain ⟨_, _, _, rfl, _⟩ := h
    rfl
  refine ⟨_, (qss_cons (qs_set (i := 2) scMarkOf.nd rfl (Or.inl rfl) (qe_def DKindsOn (hr.mono (by first | decide | exact Nat.le_refl _)) (qa_c (qe_ix (ix_tupK (K := K) rfl) (qv 0) qe_int (fun _ _ => rfl)) (qa_c (qv 1) qa_nil))))
    (qss_one (qs_ret (qe_ifExp (qt_truthK (K := K) rfl (qv 2) (fun _ => rfl)) (qe_ix (ix_listK (K := K) rfl) (qv 2) qe_int (fun _ _ => rfl)) qe_non)))), _, (cs_seq (cs_asg (ce_callP (ca_cons (ce_ixT (ce_var 0) (ce_c (.int _))) (ca_cons (ce_var 1) ca_nil))) (cg_name 2))
      (cs_ret (ce_if (ct_tru (ce_var 2)) (ce_ixL (ce_var 2) (ce_c (.int _))) (ce_c .non)))), fun ts Qt h => ?_⟩
  obtain ⟨bits, ms, word, rfl, hw, hl, q⟩ := h
  walk_at "u"
  refine ⟨ms, word, rfl, hw, hl, ?_⟩
  unfold markOfT at q
  unfold strsT
  cases e : ms.filter (on word) with
  | nil =>
    rw [e] at q
    simp only [uTru]
    walk_at "u"
    refine ⟨false, rfl, ?_⟩
    walk_at "u"
    exact q
  | cons m r =>
    rw [e] at q
    simp only [uTru]
    walk_at "u"
    refine ⟨true, rfl, ?_⟩
    walk_at "u"
    exact q
abbrev sLoadOf : Stmt := top 8
theorem scLoadOf : FnScope ["laying", "word", "kind"] ["laying", "word", "kind"] (defScope sLoadOf) := ⟨rfl, rfl, rfl, by decide +kernel, rfl, by decide +kernel, by decide +kernel⟩
def gLoadOf : List T → (T → Prop) → Prop := fun ts Q => ∃ (bits : Int) (ms : List Mk3) (word : Int) (kind : Str) (m : Mk3), ts = [layT bits ms, .int word, .str kind] ∧ ms.length ≤ 900 ∧ OfKind ms kind m ∧ 0 ≤ m.2.1 ∧ Q (.int (word / 2 ^ m.2.1.toNat))
theorem ok_load_ofU {f : Addr} {fd : FuncData} (F : Fun K "load_of" "load_of" sLoadOf f fd) (DMarkFor : Def P w K mg base "mark_for" 1 ["laying", "kind"] (spP gMark)) : FnOk P w K mg base CX0 2 f fd ["laying", "word", "kind"] (spP gLoadOf) := by
  refine F.zP scLoadOf (fun ts Qt h => ?_) (fun cdv A outer s H E hr => ?_)
  · obtain ⟨_, _, _, _, _, rfl, _⟩ := h
    rfl
  refine ⟨_, (qss_one (qs_ret (qe_op op_shr (qv 1) (qe_ix (ix_tupK (K := K) rfl) (qe_def DMarkFor (hr.mono (by first | decide | exact Nat.le_refl _)) (qa_c (qv 0) (qa_c (qv 2) qa_nil))) qe_int (fun _ _ => rfl))))), _, (cs_ret (ce_op (opl_I fun _ _ => .int _) (ce_var 1) (ce_ixT (ce_callP (ca_cons (ce_var 0) (ca_cons (ce_var 2) ca_nil))) (ce_c (.int _))))), fun ts Qt h => ?_⟩
  obtain ⟨bits, ms, word, kind, m, rfl, hl, hm, h0, q⟩ := h
  walk_at "u"
  refine ⟨bits, ms, kind, m, rfl, hl, hm, ?_⟩
  walk_at "u"
  exact ⟨h0, q⟩
abbrev sMarked : Stmt := top 9
theorem scMarked : FnScope ["laying", "kind", "load", "mark"] ["laying", "kind", "load"] (defScope sMarked) := ⟨rfl, rfl, rfl, by decide +kernel, rfl, by decide +kernel, by decide +kernel⟩
def gMarked : List T → (T → Prop) → Prop := fun ts Q => ∃ (bits : Int) (ms : List Mk3) (kind : Str) (load : Int) (m : Mk3), ts = [layT bits ms, .str kind, .int load] ∧ ms.length ≤ 900 ∧ OfKind ms kind m ∧ 0 ≤ m.2.1 ∧ m.2.1 ≤ 1000 ∧ load.natAbs < 2 ^ 64 ∧ Q (.int (load * 2 ^ m.2.1.toNat + m.2.2))
theorem ok_markedU {f : Addr} {fd : FuncData} (F : Fun K "marked" "marked" sMarked f fd) (DMarkFor : Def P w K mg base "mark_for" 1 ["laying", "kind"] (spP gMark)) : FnOk P w K mg base CX0 2 f fd ["laying", "kind", "load"] (spP gMarked) := by
  refine F.zP scMarked (fun ts Qt h => ?_) (fun cdv A outer s H E hr => ?_)
  · obtain ⟨_, _, _, _, _, rfl, _⟩ := h
    rfl
  refine ⟨_, (qss_cons (qs_set (i := 3) scMarked.nd rfl (Or.inl rfl) (qe_def DMarkFor (hr.mono (by first | decide | exact Nat.le_refl _)) (qa_c (qv 0) (qa_c (qv 1) qa_nil))))
    (qss_one (qs_ret (qe_op op_add (qe_op op_shl (qv 2) (qe_ix (ix_tupK (K := K) rfl) (qv 3) qe_int (fun _ _ => rfl))) (qe_ix (ix_tupK (K := K) rfl) (qv 3) qe_int (fun _ _ => rfl)))))), _, (cs_seq (cs_asg (ce_callP (ca_cons (ce_var 0) (ca_cons (ce_var 1) ca_nil))) (cg_name 3))
      (cs_ret (ce_op (opl_I0 fun _ _ => .int _) (ce_op (opl_I fun _ _ => .int _) (ce_var 2) (ce_ixT (ce_var 3) (ce_c (.int _)))) (ce_ixT (ce_var 3) (ce_c (.int _)))))), fun ts Qt h => ?_⟩
  obtain ⟨bits, ms, kind, load, m, rfl, hl, hm, h0, h1, h2, q⟩ := h
  walk_at "u"
  refine ⟨bits, ms, kind, m, rfl, hl, hm, ?_⟩
  walk_at "u"
  refine ⟨⟨h0, by omega, h2⟩, ?_⟩
  walk_at "u"
  exact q
abbrev sSmallOf : Stmt := top 10
theorem scSmallOf : FnScope ["bits", "load"] ["bits", "load"] (defScope sSmallOf) := ⟨rfl, rfl, rfl, by decide +kernel, rfl, by decide +kernel, by decide +kernel⟩
def smallOf (s load : Int) : Int := if 2 ^ (s - 1).toNat ≤ load then load - 2 ^ s.toNat else load
def gSmallOf : List T → (T → Prop) → Prop := fun ts Q => ∃ (s load : Int), ts = [.int s, .int load] ∧ 1 ≤ s ∧ s ≤ 1000 ∧ Q (.int (smallOf s load))
theorem ok_small_ofU {f : Addr} {fd : FuncData} (F : Fun K "small_of" "small_of" sSmallOf f fd) : FnOk P w K mg base CX0 1 f fd ["bits", "load"] (spP gSmallOf) := by
  refine F.zP scSmallOf (fun ts Qt h => ?_) (fun cdv A outer s H E hr => ?_)
  · obtain ⟨_, _, rfl, _⟩ := h
    rfl
  refine ⟨_, (qss_one (qs_ret (qe_ifExp (qt_cmpR op_ge (qv 1) (qe_op op_shl qe_int (qe_op op_sub (qv 0) qe_int)) (nomark _)) (qe_op op_sub (qv 1) (qe_op op_shl qe_int (qv 0))) (qv 1)))), _, (cs_ret (ce_if (ct_test (ce_op (opl_I0 fun _ _ => .bl _) (ce_var 1) (ce_op (opl_I fun _ _ => .int _) (ce_c (.int _)) (ce_op (opl_I0 fun _ _ => .int _) (ce_var 0) (ce_c (.int _)))))) (ce_op (opl_I0 fun _ _ => .int _) (ce_var 1) (ce_op (opl_I fun _ _ => .int _) (ce_c (.int _)) (ce_var 0))) (ce_var 1))), fun ts Qt h => ?_⟩
  obtain ⟨sb, load, rfl, h0, h1, q⟩ := h
  walk_at "u"
  unfold smallOf at q
  refine ⟨⟨by omega, by omega, by decide⟩, ?_⟩
  rw [Int.one_mul]
  refine ite2 (fun hh => ?_) (fun hh => ?_)
  · rw [if_pos hh] at q
    refine ⟨⟨by omega, by omega, by decide⟩, ?_⟩
    rw [Int.one_mul]
    exact q
  · rw [if_neg hh] at q
    exact q

theorem nodup_inj : ∀ {ms : List Mk3} {m m' : Mk3}, (ms.map (·.1)).Nodup → m ∈ ms → m' ∈ ms → m.1 = m'.1 → m = m'
  | [], _, _, _, h, _, _ => nomatch h
  | x :: ms, m, m', hn, h, h', e => by
    obtain ⟨n1, n2⟩ := List.nodup_cons.mp (show (x.1 :: ms.map (·.1)).Nodup from hn)
    rcases List.mem_cons.mp h with z | h
    · rcases List.mem_cons.mp h' with z' | h'
      · rw [z, z']
      · exact absurd (List.mem_map.mpr ⟨m', h', by rw [← e, z]⟩) n1
    · rcases List.mem_cons.mp h' with z' | h'
      · exact absurd (List.mem_map.mpr ⟨m, h, by rw [e, z']⟩) n1
      · exact nodup_inj n2 h h' e
theorem Right.ofKind {bits : Int} {ms : List Mk3} (r : Right bits ms) {m : Mk3} (hm : m ∈ ms) : OfKind ms m.1 m := by
  have hk : m.1 ∈ fiveK := r.k.mem_iff.mp (List.mem_map.mpr ⟨m, hm, rfl⟩)
  obtain ⟨m', h'⟩ := r.kind hk
  have nd : (ms.map (·.1)).Nodup := r.k.nodup_iff.mpr (by decide)
  have : m' = m := nodup_inj nd h'.mem hm h'.is
  rw [← this] at h' ⊢
  exact h'
def three3 : List Str := ["none", "no", "yes"]
theorem three_first {j : Nat} {t : Str} (h : three3[j]? = some t) : ∀ m, m < j → three3[m]? ≠ some t := by
  have hj : j < 3 := (List.getElem?_eq_some_iff.mp h).1
  intro m hm
  rcases (show j = 1 ∨ j = 2 by omega) with rfl | rfl
  · have : m = 0 := by omega
    subst this
    simp [three3] at h ⊢
    subst h; decide
  · simp [three3] at h
    subst h
    rcases (show m = 0 ∨ m = 1 by omega) with rfl | rfl <;> simp [three3] <;> decide
def wordOf (bits : Int) (m : Mk3) (load : Int) : Int := load % 2 ^ (bits - m.2.1).toNat * 2 ^ m.2.1.toNat + m.2.2
abbrev sWorthOf : Stmt := top 11
theorem scWorthOf : FnScope ["laying", "word", "kind", "load"] ["laying", "word"] (defScope sWorthOf) := ⟨rfl, rfl, rfl, by decide +kernel, rfl, by decide +kernel, by decide +kernel⟩
/-- what a word stands for -/
def worthM (bits : Int) (m : Mk3) (load : Int) : T := if m.1 = "small" then .int (smallOf (bits - m.2.1) load) else if m.1 = "one" then (if load < 3 then .str (three3.getD load.toNat "none") else .non) else if m.1 = "sign" ∧ 128 ≤ load then .non else .tup [.str m.1, .int load]
def worthT (bits : Int) (ms : List Mk3) (word : Int) : T := match ms.filter (on word) with
  | [] => .non
  | m :: _ => worthM bits m (word / 2 ^ m.2.1.toNat)
def gWorthOf : List T → (T → Prop) → Prop := fun ts Q => ∃ (bits : Int) (ms : List Mk3) (word : Int), ts = [layT bits ms, .int word] ∧ Right bits ms ∧ 0 ≤ word ∧ Q (worthT bits ms word)
theorem ok_worth_ofU {three : Addr} {f : Addr} {fd : FuncData} (F : Fun K "worth_of" "worth_of" sWorthOf f fd) (N : Nms mg) (T3 : Tup3 K mg "THREE" three "none" "no" "yes") (GSigns : GInt mg "SIGNS" 128) (DMarkOf : Def P w K mg base "mark_of" 2 ["laying", "word"] (spP gMarkOf)) (DLoadOf : Def P w K mg base "load_of" 2 ["laying", "word", "kind"] (spP gLoadOf)) (DSmallOf : Def P w K mg base "small_of" 1 ["bits", "load"] (spP gSmallOf)) (DLoadBits : Def P w K mg base "load_bits" 2 ["laying", "kind"] (spP gLoad)) : FnOk P w K mg base CX0 3 f fd ["laying", "word"] (spP gWorthOf) := by
  refine F.zP scWorthOf (fun ts Qt h => ?_) (fun cdv A outer s H E hr => ?_)
  · obtain ⟨_, _, _, rfl, _⟩ := h
    rfl
  refine ⟨_, (qss_cons (qs_set (i := 2) scWorthOf.nd rfl (Or.inl rfl) (qe_def DMarkOf (hr.mono (by first | decide | exact Nat.le_refl _)) (qa_c (qv 0) (qa_c (qv 1) qa_nil))))
    (qss_cons (qs_if (qt_cmpR op_isN (qv 2) qe_non (nomark _))
      (qss_one (qs_ret qe_non))
      qss_nil)
    (qss_cons (qs_set (i := 3) scWorthOf.nd rfl (Or.inl rfl) (qe_def DLoadOf (hr.mono (by first | decide | exact Nat.le_refl _)) (qa_c (qv 0) (qa_c (qv 1) (qa_c (qv 2) qa_nil)))))
    (qss_cons (qs_if (qt_cmpR op_eq (qv 2) qe_str (nomark _))
      (qss_one (qs_ret (qe_def DSmallOf (hr.mono (by first | decide | exact Nat.le_refl _)) (qa_c (qe_def DLoadBits (hr.mono (by first | decide | exact Nat.le_refl _)) (qa_c (qv 0) (qa_c (qv 2) qa_nil))) (qa_c (qv 3) qa_nil)))))
      qss_nil)
    (qss_cons (qs_if (qt_cmpR op_eq (qv 2) qe_str (nomark _))
      (qss_one (qs_ret (qe_ifExp (qt_cmpR op_lt (qv 3) (qe_callB (call_lenAK (K := K) rfl) (by rfl) N.len b_len (qa_c (qe_glob (v := .ref three) rfl T3.mg rfl) qa_nil)) (nomark _)) (qe_ix (ix_tupK (K := K) rfl) (qe_glob (v := .ref three) rfl T3.mg rfl) (qv 3) (fun _ _ => rfl)) qe_non)))
      qss_nil)
    (qss_cons (qs_if (qw_pt (qw_and (qt_cmpR op_eq (qv 2) qe_str (nomark _)) (qw_and1 (qt_cmpR op_ge (qv 3) (qe_gint GSigns rfl) (nomark _)))))
      (qss_one (qs_ret qe_non))
      qss_nil)
    (qss_one (qs_ret (qe_tup (qa_c (qv 2) (qa_c (qv 3) qa_nil))))))))))), _, (cs_seq (cs_asg (ce_callP (ca_cons (ce_var 0) (ca_cons (ce_var 1) ca_nil))) (cg_name 2))
      (cs_seq (cs_if (ct_test (ce_isN (ce_var 2)))
      (cs_ret (ce_c .non))
      cs_next)
      (cs_seq (cs_asg (ce_callP (ca_cons (ce_var 0) (ca_cons (ce_var 1) (ca_cons (ce_var 2) ca_nil)))) (cg_name 3))
      (cs_seq (cs_if (ct_test (ce_op opl_eq (ce_var 2) (ce_c (.str _))))
      (cs_ret (ce_callP (ca_cons (ce_callP (ca_cons (ce_var 0) (ca_cons (ce_var 2) ca_nil))) (ca_cons (ce_var 3) ca_nil))))
      cs_next)
      (cs_seq (cs_if (ct_test (ce_op opl_eq (ce_var 2) (ce_c (.str _))))
      (cs_ret (ce_if (ct_test (ce_op (opl_I0 fun _ _ => .bl _) (ce_var 3) (ce_lenK T3.kt))) (ce_ixK T3.kt (scs_str [_, _, _]) (ce_var 3)) (ce_c .non)))
      cs_next)
      (cs_seq (cs_if (ct_and (ct_test (ce_op opl_eq (ce_var 2) (ce_c (.str _)))) (ct_test (ce_op (opl_I0 fun _ _ => .bl _) (ce_var 3) (ce_c (.int _)))))
      (cs_ret (ce_c .non))
      cs_next)
      (cs_ret (ce_tup (ca_cons (ce_var 2) (ca_cons (ce_var 3) ca_nil)))))))))), fun ts Qt h => ?_⟩
  obtain ⟨bits, ms, word, rfl, hR, hw0, q⟩ := h
  have hb1 := hR.b
  have hn5 := hR.n
  walk_at "u"
  refine ⟨bits, ms, word, rfl, hR.wd, by omega, ?_⟩
  unfold worthT at q
  unfold markOfT
  cases e : ms.filter (on word) with
  | nil =>
    rw [e] at q
    walk_at "u"
    exact q
  | cons m r =>
    rw [e] at q
    have hmem : m ∈ ms := (List.mem_filter.mp (by rw [e]; exact List.mem_cons_self)).1
    have hmk := hR.ofKind hmem
    have hmw := hR.w m hmem
    have hnd := need_ge m.1
    simp only at q
    generalize hld : word / 2 ^ m.2.1.toNat = load at q
    have hl0 : 0 ≤ load := by rw [← hld]; exact Int.ediv_nonneg hw0 (Int.le_of_lt (two_pos _))
    unfold worthM at q
    walk_at "u"
    refine ⟨bits, ms, word, m.1, m, rfl, by omega, hmk, by omega, ?_⟩
    rw [hld]
    walk_at "u"
    refine ite2 (fun h1 => ?_) (fun h1 => ?_)
    · rw [if_pos h1] at q
      refine ⟨bits, ms, m.1, m, rfl, by omega, hmk, ?_⟩
      walk_at "u"
      refine ⟨bits - m.2.1, load, rfl, by omega, by omega, ?_⟩
      walk_at "u"
      exact q
    rw [if_neg h1] at q
    refine ite2 (fun h2 => ?_) (fun h2 => ?_)
    · rw [if_pos h2] at q
      refine ite2 (fun h3 => ?_) (fun h3 => ?_)
      · rw [if_pos (show load < 3 by omega)] at q
        rcases (show load = 0 ∨ load = 1 ∨ load = 2 by omega) with rfl | rfl | rfl
        · exact ⟨_, rfl, q⟩
        · exact ⟨_, rfl, q⟩
        · exact ⟨_, rfl, q⟩
      · rw [if_neg (show ¬ load < 3 by omega)] at q
        exact q
    rw [if_neg h2] at q
    refine ite2 (fun h3 => ?_) (fun h3 => ?_)
    · refine ite2 (fun h4 => ?_) (fun h4 => ?_)
      · rw [if_pos ⟨h3, h4⟩] at q
        exact q
      · rw [if_neg (fun z => h4 z.2)] at q
        walk_at "u"
        exact q
    · rw [if_neg (fun z => h3 z.1)] at q
      walk_at "u"
      exact q
abbrev sWordOf : Stmt := top 12
theorem scWordOf : FnScope ["laying", "worth"] ["laying", "worth"] (defScope sWordOf) := ⟨rfl, rfl, rfl, by decide +kernel, rfl, by decide +kernel, by decide +kernel⟩
/-- a worth that a word can hold: its tree, its kind, its load -/
inductive WorthT : T → Str → Int → Prop
  | int (n : Int) : WorthT (.int n) "small" n
  | one {t : Str} {j : Nat} (h : three3[j]? = some t) : WorthT (.str t) "one" j
  | tup {kind : Str} (load : Int) : WorthT (.tup [.str kind, .int load]) kind load
def gWordOf : List T → (T → Prop) → Prop := fun ts Q => ∃ (bits : Int) (ms : List Mk3) (t : T) (kind : Str) (load : Int) (m : Mk3), ts = [layT bits ms, t] ∧ ms.length ≤ 900 ∧ WorthT t kind load ∧ OfKind ms kind m ∧ 0 ≤ m.2.1 ∧ 0 ≤ bits - m.2.1 ∧ bits ≤ 60 ∧ ((∃ n, t = .int n) ∨ (0 ≤ load ∧ load < 2 ^ (bits - m.2.1).toNat)) ∧ Q (.int (wordOf bits m load))
theorem pow60 {s : Int} (h : s ≤ 60) : (2 : Int) ^ s.toNat ≤ 2 ^ 60 := by
  have : (2 : Nat) ^ s.toNat ≤ 2 ^ 60 := Nat.pow_le_pow_right (by decide) (by omega)
  exact_mod_cast this
theorem ok_word_ofU {three : Addr} {f : Addr} {fd : FuncData} (F : Fun K "word_of" "word_of" sWordOf f fd) (N : Nms mg) (T3 : Tup3 K mg "THREE" three "none" "no" "yes") (DMarked : Def P w K mg base "marked" 2 ["laying", "kind", "load"] (spP gMarked)) (DLoadBits : Def P w K mg base "load_bits" 2 ["laying", "kind"] (spP gLoad)) : FnOk P w K mg base CX0 3 f fd ["laying", "worth"] (spP gWordOf) := by
  refine F.zP scWordOf (fun ts Qt h => ?_) (fun cdv A outer s H E hr => ?_)
  · obtain ⟨_, _, _, _, _, _, rfl, _⟩ := h
    rfl
  refine ⟨_, (qss_cons (qs_if (qt_val (qe_callB (call_isiK (K := K) rfl) (by rfl) N.isinstance b_isinstance (qa_c (qv 1) (qa_c (qe_bltn (v := .ty "int") (by rfl) N.int b_int rfl) qa_nil))))
      (qss_one (qs_ret (qe_def DMarked (hr.mono (by first | decide | exact Nat.le_refl _)) (qa_c (qv 0) (qa_c qe_str (qa_c (qe_op op_mod (qv 1) (qe_op op_shl qe_int (qe_def DLoadBits (hr.mono (by first | decide | exact Nat.le_refl _)) (qa_c (qv 0) (qa_c qe_str qa_nil))))) qa_nil))))))
      qss_nil)
    (qss_cons (qs_if (qt_val (qe_callB (call_isiK (K := K) rfl) (by rfl) N.isinstance b_isinstance (qa_c (qv 1) (qa_c (qe_bltn (v := .ty "str") (by rfl) N.str b_str rfl) qa_nil))))
      (qss_one (qs_ret (qe_def DMarked (hr.mono (by first | decide | exact Nat.le_refl _)) (qa_c (qv 0) (qa_c qe_str (qa_c (qe_bm PySem.F.plainAttrs_tuple PySem.F.slot_tuple_index PySem.F.type_tuple_index (mt_indexT (K := K) rfl T3) (qe_glob (v := .ref three) rfl T3.mg rfl) (qa_c (qv 1) qa_nil)) qa_nil))))))
      qss_nil)
    (qss_one (qs_ret (qe_def DMarked (hr.mono (by first | decide | exact Nat.le_refl _)) (qa_c (qv 0) (qa_c (qe_ix (ix_tupK (K := K) rfl) (qv 1) qe_int (fun _ _ => rfl)) (qa_c (qe_ix (ix_tupK (K := K) rfl) (qv 1) qe_int (fun _ _ => rfl)) qa_nil)))))))), _, (cs_seq (cs_if (ct_b (ce_isi .int (ce_var 1)))
      (cs_ret (ce_callP (ca_cons (ce_var 0) (ca_cons (ce_c (.str _)) (ca_cons (ce_op (opl_I fun _ _ => .int _) (ce_var 1) (ce_op (opl_I fun _ _ => .int _) (ce_c (.int _)) (ce_callP (ca_cons (ce_var 0) (ca_cons (ce_c (.str _)) ca_nil))))) ca_nil)))))
      cs_next)
      (cs_seq (cs_if (ct_b (ce_isi .str (ce_var 1)))
      (cs_ret (ce_callP (ca_cons (ce_var 0) (ca_cons (ce_c (.str _)) (ca_cons (ce_idxK T3 (ca_cons (ce_var 1) ca_nil)) ca_nil)))))
      cs_next)
      (cs_ret (ce_callP (ca_cons (ce_var 0) (ca_cons (ce_ixT (ce_var 1) (ce_c (.int _))) (ca_cons (ce_ixT (ce_var 1) (ce_c (.int _))) ca_nil))))))), fun ts Qt h => ?_⟩
  obtain ⟨bits, ms, t, kind, load, m, rfl, hl, hwt, hm, h0, h1, h60, hb, q⟩ := h
  have hp := two_pos (bits - m.2.1).toNat
  have hp60 := pow60 (s := bits - m.2.1) (by omega)
  unfold wordOf at q
  cases hwt with
  | int n =>
    have hlt := Int.emod_lt_of_pos load hp
    have hnn := Int.emod_nonneg load (Int.ne_of_gt hp)
    walk_at "u"
    refine ⟨bits, ms, "small", m, rfl, hl, hm, ?_⟩
    walk_at "u"
    refine ⟨⟨h1, by omega, by decide⟩, by rw [Int.one_mul]; exact hp, ?_⟩
    rw [Int.one_mul]
    refine ⟨bits, ms, "small", _, m, rfl, hl, hm, h0, by omega, by omega, ?_⟩
    walk_at "u"
    exact q
  | @one t j hj =>
    have hj3 : j < 3 := (List.getElem?_eq_some_iff.mp hj).1
    obtain ⟨g0, g1⟩ : 0 ≤ (j : Int) ∧ (j : Int) < 2 ^ (bits - m.2.1).toNat := hb.resolve_left fun ⟨_, z⟩ => by cases z
    walk_at "u"
    refine ⟨t, j, rfl, hj, three_first hj, ?_⟩
    walk_at "u"
    refine ⟨bits, ms, "one", _, m, rfl, hl, hm, h0, by omega, by omega, ?_⟩
    rw [Int.emod_eq_of_lt g0 g1] at q
    walk_at "u"
    exact q
  | tup load =>
    obtain ⟨g0, g1⟩ : 0 ≤ load ∧ load < 2 ^ (bits - m.2.1).toNat := hb.resolve_left fun ⟨_, z⟩ => by cases z
    walk_at "u"
    refine ⟨bits, ms, kind, load, m, rfl, hl, hm, h0, by omega, by omega, ?_⟩
    rw [Int.emod_eq_of_lt g0 g1] at q
    walk_at "u"
    exact q

def lcnt (bits n : Int) : Nat := (Builtin.Int.intBits n + bits.toNat - 1) / bits.toNat
def lim (b a i : Nat) : Int := ((a / 2 ^ (b * i) % 2 ^ b : Nat) : Int)
def limbsL (bits n : Int) : List Int := (List.range (lcnt bits n)).map (lim bits.toNat n.natAbs)
theorem left_pos {bits n : Int} (hb : 1 ≤ bits) (i : Nat) : 0 < n.natAbs / 2 ^ (bits.toNat * i) ↔ i < lcnt bits n := by
  have hb' : 0 < bits.toNat := by omega
  have h1 : 0 < n.natAbs / 2 ^ (bits.toNat * i) ↔ ¬ n.natAbs < 2 ^ (bits.toNat * i) := by
    rw [Nat.div_pos_iff]
    have := Nat.pow_pos (n := bits.toNat * i) (show 0 < 2 by decide)
    omega
  rw [h1, ← intBits_le_iff]
  unfold lcnt
  rw [← Nat.succ_le_iff, Nat.le_div_iff_mul_le hb', Nat.succ_mul, Nat.mul_comm i]
  omega
theorem lcnt_le {bits n : Int} {m : Nat} (h : Bt m n) (hb : 1 ≤ bits) (h60 : bits ≤ 60) : lcnt bits n ≤ m + 60 := by
  unfold lcnt
  have := h.bits
  refine Nat.le_trans (Nat.div_le_self _ _) ?_
  omega
theorem left_next {b a i : Nat} : a / 2 ^ (b * i) / 2 ^ b = a / 2 ^ (b * (i + 1)) := by
  rw [Nat.div_div_eq_div_mul, ← Nat.pow_add]
  rfl
theorem abs_nat (n : Int) : (if n < 0 then -n else n) = (n.natAbs : Int) := by split <;> omega
theorem bits_abs (n : Int) : Builtin.Int.intBits (n.natAbs : Int) = Builtin.Int.intBits n := by
  apply Nat.le_antisymm
  · exact intBits_le_iff.mpr (by rw [Int.natAbs_natCast]; exact intBits_le_iff.mp (Nat.le_refl _))
  · refine intBits_le_iff.mpr ?_
    have := intBits_le_iff.mp (Nat.le_refl (Builtin.Int.intBits (n.natAbs : Int)))
    rw [Int.natAbs_natCast] at this
    exact this
theorem lcnt_int {bits n : Int} (hb : 1 ≤ bits) : ((Builtin.Int.intBits n : Int) + bits - 1) / bits = (lcnt bits n : Int) := by
  obtain ⟨b, rfl⟩ : ∃ b : Nat, bits = (b : Int) := ⟨bits.toNat, by omega⟩
  unfold lcnt
  rw [Int.toNat_natCast]
  have e : (Builtin.Int.intBits n : Int) + (b : Int) - 1 = ((Builtin.Int.intBits n + b - 1 : Nat) : Int) := by omega
  rw [e]
  exact_mod_cast rfl
theorem pow_cast (k : Nat) : (1 : Int) * 2 ^ k = ((2 ^ k : Nat) : Int) := by rw [Int.one_mul]; simp
def headN (bits n : Int) : Int := 4 * (lcnt bits n : Int) + (if n < 0 then 2 else 0)
def rowsL (bits n : Int) : List Int := headN bits n :: limbsL bits n
def RowOf (bits : Int) (d : Option Int) (rw : List Int) : Prop := match d with
  | none => ∃ w1 w2, rw = [1, w1, w2]
  | some n => rw = rowsL bits n ∧ n ≠ 0 ∧ Bt 20000 n
theorem rows_len {bits n : Int} : (rowsL bits n).length = lcnt bits n + 1 := by
  unfold rowsL; rw [List.length_cons]; unfold limbsL; rw [List.length_map, List.length_range]
theorem lcnt_pos' {bits n : Int} (hb : 1 ≤ bits) (hn : n ≠ 0) : 0 < lcnt bits n := by
  refine (left_pos hb 0).mp ?_
  rw [Nat.mul_zero, Nat.pow_zero, Nat.div_one]
  omega
theorem horner {b a c i : Nat} (h : i < c) : ((a / 2 ^ (b * (c - i)) : Nat) : Int) * 2 ^ b + lim b a (c - 1 - i) = ((a / 2 ^ (b * (c - (i + 1))) : Nat) : Int) := by
  have e : c - i = (c - 1 - i) + 1 := by omega
  have e2 : c - (i + 1) = c - 1 - i := by omega
  rw [e, e2, ← left_next]
  unfold lim
  generalize a / 2 ^ (b * (c - 1 - i)) = z
  have := Nat.div_add_mod z (2 ^ b)
  have h2 : ((2 ^ b : Nat) : Int) = 2 ^ b := by simp
  rw [← h2]
  have h3 : (((2 ^ b * (z / 2 ^ b) + z % 2 ^ b : Nat)) : Int) = (z : Int) := by rw [this]
  rw [← h3]
  push_cast
  rw [Int.mul_comm]
theorem bt_of {n : Int} {k : Nat} (h0 : 0 ≤ n) (h1 : n < 2 ^ k) : Bt k n := by
  unfold Bt
  obtain ⟨a, rfl⟩ : ∃ a : Nat, n = (a : Int) := ⟨n.toNat, by omega⟩
  rw [Int.natAbs_natCast]
  have : (a : Int) < ((2 ^ k : Nat) : Int) := by push_cast; exact h1
  exact_mod_cast this
theorem bits_neg (n : Int) : Builtin.Int.intBits (-n) = Builtin.Int.intBits n := by
  rw [← bits_abs (-n), ← bits_abs n, Int.natAbs_neg]
theorem lcnt_neg {bits n : Int} : lcnt bits (-n) = lcnt bits n := by unfold lcnt; rw [bits_neg]
theorem limbs_neg {bits n : Int} : limbsL bits (-n) = limbsL bits n := by unfold limbsL; rw [lcnt_neg, Int.natAbs_neg]
theorem head_neg {bits n : Int} (h : n ≠ 0) : headN bits (-n) = headN bits n + (if n < 0 then -2 else 2) := by
  unfold headN
  rw [lcnt_neg]
  by_cases hn : n < 0
  · rw [if_pos hn, if_pos hn, if_neg (by omega)]; omega
  · rw [if_neg hn, if_neg hn, if_pos (by omega)]; omega
def smallB (s n : Int) : Bool := decide (-(2 ^ (s - 1).toNat) ≤ n ∧ n < 2 ^ (s - 1).toNat)

abbrev sIsSmall : Stmt := top 13
theorem scIsSmall : FnScope ["laying", "n", "half"] ["laying", "n"] (defScope sIsSmall) := ⟨rfl, rfl, rfl, by decide +kernel, rfl, by decide +kernel, by decide +kernel⟩
def gIsSmall : List T → (T → Prop) → Prop := fun ts Q => ∃ (bits : Int) (ms : List Mk3) (n : Int) (m : Mk3), ts = [layT bits ms, .int n] ∧ ms.length ≤ 900 ∧ OfKind ms "small" m ∧ 1 ≤ bits - m.2.1 ∧ bits - m.2.1 ≤ 60 ∧ Q (.bl (smallB (bits - m.2.1) n))
theorem ok_is_smallU {f : Addr} {fd : FuncData} (F : Fun K "is_small" "is_small" sIsSmall f fd) (DLoadBits : Def P w K mg base "load_bits" 2 ["laying", "kind"] (spP gLoad)) : FnOk P w K mg base CX0 3 f fd ["laying", "n"] (spP gIsSmall) := by
  refine F.zP scIsSmall (fun ts Qt h => ?_) (fun cdv A outer s H E hr => ?_)
  · obtain ⟨_, _, _, _, rfl, _⟩ := h
    rfl
  refine ⟨_, (qss_cons (qs_set (i := 2) scIsSmall.nd rfl (Or.inl rfl) (qe_op op_shl qe_int (qe_op op_sub (qe_def DLoadBits (hr.mono (by first | decide | exact Nat.le_refl _)) (qa_c (qv 0) (qa_c qe_str qa_nil))) qe_int)))
    (qss_one (qs_ret (qe_chain op_le op_lt (qe_un un_neg (qv 2)) (qv 1) (qv 2))))), _, (cs_seq (cs_asg (ce_op (opl_I fun _ _ => .int _) (ce_c (.int _)) (ce_op (opl_I0 fun _ _ => .int _) (ce_callP (ca_cons (ce_var 0) (ca_cons (ce_c (.str _)) ca_nil))) (ce_c (.int _)))) (cg_name 2))
      (cs_ret (ce_chain (opl_I0 fun _ _ => .bl _) (opl_I0 fun _ _ => .bl _) (ce_neg (ce_var 2)) (ce_var 1) (ce_var 2)))), fun ts Qt h => ?_⟩
  obtain ⟨bits, ms, n, m, rfl, hl, hm, s0, s1, q⟩ := h
  walk_at "u"
  refine ⟨bits, ms, "small", m, rfl, hl, hm, ?_⟩
  walk_at "u"
  refine ⟨⟨by omega, by omega, by decide⟩, ?_⟩
  rw [Int.one_mul]
  unfold smallB at q
  generalize (2 : Int) ^ (bits - m.2.1 - 1).toNat = half at q ⊢
  by_cases h1 : -half ≤ n
  · rw [if_pos h1]
    simpa only [h1, true_and] using q
  · rw [if_neg h1]
    simpa only [h1, false_and, decide_false] using q

abbrev sNumber : Stmt := top 19
theorem scNumber : FnScope ["bag", "laying", "kind", "near", "sign"] ["bag", "laying"] (defScope sNumber) := ⟨rfl, rfl, rfl, by decide +kernel, rfl, by decide +kernel, by decide +kernel⟩
def gNumber : List U → MM → UK → Prop := fun us M Q => ∃ (k : Nat) (o : MO) (bits : Int) (ms : List Mk3), us = [.m k, .p (layT bits ms)] ∧ M[k]? = some o ∧ BagO o ∧ Right bits ms ∧ ∀ (n : Int) (o' : MO), BagO o' → Bt 300 n → Q (.p (.int n)) (M.set k o')
theorem ok_numberU {f : Addr} {fd : FuncData} (F : Fun K "_law_number" "_law_number" sNumber f fd) (N : Nms mg) (DDraw : Def P w K mg base "_law_draw" 1 ["bag", "many"] (spU gDraw)) (DLoad : Def P w K mg base "_law_load" 2 ["laying", "kind"] (spP gLoad)) : FnOk P w K mg base CX0 3 f fd ["bag", "laying"] (spU gNumber) := by
  refine F.zV scNumber (fun us M Qu h => ?_) (fun cdv A outer s H E hr => ?_)
  · obtain ⟨_, _, _, _, rfl, _⟩ := h
    rfl
  refine ⟨_, (qss_cons (qs_set (i := 2) scNumber.nd rfl (Or.inl rfl) (qe_def DDraw (hr.mono (by first | decide | exact Nat.le_refl _)) (qa_c (qv 0) (qa_c qe_int qa_nil))))
    (qss_cons (qs_if (qt_cmpR op_lt (qv 2) qe_int (nomark _))
      (qss_one (qs_ret (qe_op op_sub (qe_def DDraw (hr.mono (by first | decide | exact Nat.le_refl _)) (qa_c (qv 0) (qa_c qe_int qa_nil))) qe_int)))
      qss_nil)
    (qss_cons (qs_set (i := 3) scNumber.nd rfl (Or.inl rfl) (qe_op op_sub (qe_def DDraw (hr.mono (by first | decide | exact Nat.le_refl _)) (qa_c (qv 0) (qa_c qe_int qa_nil))) qe_int))
    (qss_cons (qs_set (i := 4) scNumber.nd rfl (Or.inl rfl) (qe_op op_sub (qe_op op_mul (qe_def DDraw (hr.mono (by first | decide | exact Nat.le_refl _)) (qa_c (qv 0) (qa_c qe_int qa_nil))) qe_int) qe_int))
    (qss_cons (qs_if (qt_cmpR op_lt (qv 2) qe_int (nomark _))
      (qss_one (qs_ret (qe_op op_add (qe_op op_mul (qv 4) (qe_op op_shl qe_int (qe_op op_sub (qe_def DLoad (hr.mono (by first | decide | exact Nat.le_refl _)) (qa_c (qv 1) (qa_c qe_str qa_nil))) qe_int))) (qv 3))))
      qss_nil)
    (qss_cons (qs_if (qt_cmpR op_lt (qv 2) qe_int (nomark _))
      (qss_one (qs_ret (qe_op op_mul (qv 4) (qe_op op_add (qe_op op_shl qe_int (qe_callB (call_min2 rfl) (by rfl) N.min b_min (qa_c qe_int (qa_c (qe_op op_mul (qe_ix (ix_tupK (K := K) rfl) (qv 1) qe_int (fun _ _ => rfl)) (qe_op op_add qe_int (qe_def DDraw (hr.mono (by first | decide | exact Nat.le_refl _)) (qa_c (qv 0) (qa_c qe_int qa_nil))))) qa_nil)))) (qv 3)))))
      qss_nil)
    (qss_one (qs_ret (qe_op op_mul (qv 4) (qe_def DDraw (hr.mono (by first | decide | exact Nat.le_refl _)) (qa_c (qv 0) (qa_c (qe_op op_pow qe_int qe_int) qa_nil)))))))))))), _, (cs_seq (cs_asg (ce_callU (ca_cons (ce_var 0) (ca_cons (ce_c (.int _)) ca_nil))) (cg_name 2))
      (cs_seq (cs_if (ct_test (ce_op (opl_I0 fun _ _ => .bl _) (ce_var 2) (ce_c (.int _))))
      (cs_ret (ce_op (opl_I0 fun _ _ => .int _) (ce_callU (ca_cons (ce_var 0) (ca_cons (ce_c (.int _)) ca_nil))) (ce_c (.int _))))
      cs_next)
      (cs_seq (cs_asg (ce_op (opl_I0 fun _ _ => .int _) (ce_callU (ca_cons (ce_var 0) (ca_cons (ce_c (.int _)) ca_nil))) (ce_c (.int _))) (cg_name 3))
      (cs_seq (cs_asg (ce_op (opl_I0 fun _ _ => .int _) (ce_op (opl_I fun _ _ => .int _) (ce_callU (ca_cons (ce_var 0) (ca_cons (ce_c (.int _)) ca_nil))) (ce_c (.int _))) (ce_c (.int _))) (cg_name 4))
      (cs_seq (cs_if (ct_test (ce_op (opl_I0 fun _ _ => .bl _) (ce_var 2) (ce_c (.int _))))
      (cs_ret (ce_op (opl_I0 fun _ _ => .int _) (ce_op (opl_I fun _ _ => .int _) (ce_var 4) (ce_op (opl_I fun _ _ => .int _) (ce_c (.int _)) (ce_op (opl_I0 fun _ _ => .int _) (ce_callP (ca_cons (ce_var 1) (ca_cons (ce_c (.str _)) ca_nil))) (ce_c (.int _))))) (ce_var 3)))
      cs_next)
      (cs_seq (cs_if (ct_test (ce_op (opl_I0 fun _ _ => .bl _) (ce_var 2) (ce_c (.int _))))
      (cs_ret (ce_op (opl_I fun _ _ => .int _) (ce_var 4) (ce_op (opl_I0 fun _ _ => .int _) (ce_op (opl_I fun _ _ => .int _) (ce_c (.int _)) (ce_cb cbl_min (ca_cons (ce_c (.int _)) (ca_cons (ce_op (opl_I fun _ _ => .int _) (ce_ixT (ce_var 1) (ce_c (.int _))) (ce_op (opl_I0 fun _ _ => .int _) (ce_c (.int _)) (ce_callU (ca_cons (ce_var 0) (ca_cons (ce_c (.int _)) ca_nil))))) ca_nil)))) (ce_var 3))))
      cs_next)
      (cs_ret (ce_op (opl_I fun _ _ => .int _) (ce_var 4) (ce_callU (ca_cons (ce_var 0) (ca_cons (ce_op (opl_I fun _ _ => .int _) (ce_c (.int _)) (ce_c (.int _))) ca_nil))))))))))), fun us M M1 Qu e1 h => ?_⟩
  obtain ⟨k, o, bits, ms, rfl, em, hB, hR, post⟩ := h
  obtain ⟨hkl, eM⟩ := MB_start em
  have hb1 := hR.b
  have hn5 := hR.n
  obtain ⟨m, hm⟩ := hR.kind (kind := "small") (by decide)
  have hmw := hR.w m hm.mem
  have hnd := need_ge m.1
  rw [e1.trans eM]
  have fin : ∀ (z : Int) (o' : MO), BagO o' → Bt 300 z → TrimOk M (MB M k o' []) ∧ Qu (.p (.int z)) (List.take (List.length M) (MB M k o' [])) := fun z o' B h1 => ⟨MB_trim B.pur, by rw [MB_take]; exact post z o' B h1⟩
  walk_at "u"
  refine draw_at hkl hB (by decide) (by decide) fun kd o1 w0 w1 B1 => ?_
  walk_at "u"
  refine ite2 (fun h1 => ?_) (fun h1 => ?_)
  · refine draw_at hkl B1 (by decide) (by decide) fun d o2 d0 d1 B2 => ?_
    walk_at "u"
    exact fin _ _ B2 (Bt.small (by omega) (by omega) (by decide))
  refine draw_at hkl B1 (by decide) (by decide) fun d o2 d0 d1 B2 => ?_
  walk_at "u"
  refine draw_at hkl B2 (by decide) (by decide) fun d2 o3 d20 d21 B3 => ?_
  walk_at "u"
  have hsg : d2 * 2 - 1 = 1 ∨ d2 * 2 - 1 = -1 := by omega
  refine ⟨.inl ⟨by omega, by omega⟩, ?_⟩
  refine ite2 (fun h2 => ?_) (fun h2 => ?_)
  · refine ⟨bits, ms, "small", m, rfl, by omega, hm, ?_⟩
    walk_at "u"
    refine ⟨⟨by omega, by omega, by decide⟩, .inl ⟨by omega, by omega⟩, ?_⟩
    refine fin _ _ B3 ?_
    have e1 := (Bt.pow (bits - m.2.1 - 1).toNat).sign hsg
    have e2 := e1.add (Bt.small (i := d - 2) (n := 62) (by omega) (by omega) (by decide))
    exact e2.mono (by omega)
  refine ite2 (fun h3 => ?_) (fun h3 => ?_)
  · walk_at "u"
    refine draw_at hkl B3 (by decide) (by decide) fun d6 o4 d60 d61 B4 => ?_
    walk_at "u"
    have hbm : bits * (1 + d6) ≤ 192 := by
      have : bits * (1 + d6) ≤ 32 * 6 := Int.mul_le_mul (by omega) (by omega) (by omega) (by omega)
      omega
    have hbm0 : 0 ≤ bits * (1 + d6) := Int.mul_nonneg (by omega) (by omega)
    refine ⟨.inl ⟨by omega, by omega⟩, ?_⟩
    generalize hx : (if bits * (1 + d6) < 190 then bits * (1 + d6) else 190) = x
    have hx0 : 0 ≤ x ∧ x ≤ 190 := by rw [← hx]; split <;> omega
    refine ⟨⟨by omega, by omega, by decide⟩, .inl ⟨by omega, by omega⟩, ?_⟩
    refine fin _ _ B4 ?_
    have e2 := (Bt.pow x.toNat).add (Bt.small (i := d - 2) (n := 62) (by omega) (by omega) (by decide))
    exact (e2.sign hsg).mono (by omega)
  · walk_at "u"
    refine ⟨⟨by decide, by decide, by decide⟩, ?_⟩
    refine draw_at hkl B3 (by decide) (by decide +kernel) fun x o4 x0 x1 B4 => ?_
    walk_at "u"
    refine ⟨.inl ⟨by omega, by omega⟩, ?_⟩
    have h10 : Bt 300 ((10 : Int) ^ Int.toNat 60) := by unfold Bt; decide +kernel
    exact fin _ _ B4 ((h10.nonneg_le x0 (Int.le_of_lt x1)).sign hsg)

theorem pow_split {bits width : Int} (h0 : 0 ≤ width) (h1 : width ≤ bits) : (2 : Int) ^ bits.toNat = 2 ^ (bits - width).toNat * 2 ^ width.toNat := by
  rw [← Int.pow_add]
  congr 1
  omega
theorem word_lt {bits width load pattern : Int} (h0 : 0 ≤ width) (h1 : width ≤ bits) (l0 : 0 ≤ load) (l1 : load < 2 ^ (bits - width).toNat) (p0 : 0 ≤ pattern) (p1 : pattern < 2 ^ width.toNat) :
    0 ≤ load * 2 ^ width.toNat + pattern ∧ load * 2 ^ width.toNat + pattern < 2 ^ bits.toNat := by
  have hp := two_pos width.toNat
  have m0 := Int.mul_nonneg l0 (Int.le_of_lt hp)
  refine ⟨by omega, ?_⟩
  rw [pow_split h0 h1]
  have : (load + 1) * 2 ^ width.toNat ≤ 2 ^ (bits - width).toNat * 2 ^ width.toNat := Int.mul_le_mul_of_nonneg_right (by omega) (Int.le_of_lt hp)
  rw [Int.add_mul, Int.one_mul] at this
  omega
theorem xor_lt {x y : Int} {n : Nat} (x0 : 0 ≤ x) (x1 : x < 2 ^ n) (y0 : 0 ≤ y) (y1 : y < 2 ^ n) : 0 ≤ Builtin.bitXor x y ∧ Builtin.bitXor x y < 2 ^ n := by
  rw [bitXor_nn x0 y0]
  refine ⟨Int.natCast_nonneg _, ?_⟩
  have hx : x.toNat < 2 ^ n := by
    have : ((x.toNat : Nat) : Int) < ((2 ^ n : Nat) : Int) := by push_cast; omega
    exact_mod_cast this
  have hy : y.toNat < 2 ^ n := by
    have : ((y.toNat : Nat) : Int) < ((2 ^ n : Nat) : Int) := by push_cast; omega
    exact_mod_cast this
  have := Nat.xor_lt_two_pow hx hy
  exact_mod_cast this
theorem pow_lt_of {a b : Int} (h0 : 0 ≤ a) (h : a < b) : (2 : Int) ^ a.toNat < 2 ^ b.toNat := by
  have : (2 : Nat) ^ a.toNat < 2 ^ b.toNat := Nat.pow_lt_pow_right (by decide) (by omega)
  exact_mod_cast this
abbrev sSomeWord : Stmt := top 23
theorem scSomeWord : FnScope ["bag", "laying", "bits", "kind", "width", "pattern", "top", "some", "load", "word", "flip"] ["bag", "laying"] (defScope sSomeWord) := ⟨rfl, rfl, rfl, by decide +kernel, rfl, by decide +kernel, by decide +kernel⟩
def gSomeWord : List U → MM → UK → Prop := fun us M Q => ∃ (k : Nat) (o : MO) (bits : Int) (ms : List Mk3), us = [.m k, .p (layT bits ms)] ∧ M[k]? = some o ∧ BagO o ∧ Right bits ms ∧ ∀ (word : Int) (o' : MO), BagO o' → 0 ≤ word → word < 2 ^ bits.toNat → Q (.p (.int word)) (M.set k o')
theorem ok_some_wordU {f : Addr} {fd : FuncData} (F : Fun K "_law_some_word" "_law_some_word" sSomeWord f fd) (N : Nms mg) (DDraw : Def P w K mg base "_law_draw" 1 ["bag", "many"] (spU gDraw)) : FnOk P w K mg base CX0 2 f fd ["bag", "laying"] (spU gSomeWord) := by
  refine F.zV scSomeWord (fun us M Qu h => ?_) (fun cdv A outer s H E hr => ?_)
  · obtain ⟨_, _, _, _, rfl, _⟩ := h
    rfl
  refine ⟨_, (qss_cons (qs_set (i := 2) scSomeWord.nd rfl (Or.inl rfl) (qe_ix (ix_tupK (K := K) rfl) (qv 1) qe_int (fun _ _ => rfl)))
    (qss_cons (qs_asg (qe_ix (ix_listK (K := K) rfl) (qe_ix (ix_tupK (K := K) rfl) (qv 1) qe_int (fun _ _ => rfl)) (qe_def DDraw (hr.mono (by first | decide | exact Nat.le_refl _)) (qa_c (qv 0) (qa_c qe_int qa_nil))) (fun _ _ => rfl)) (qg_t3K (K := K) (i := 3) (j := 4) (k := 5) rfl scSomeWord.nd rfl rfl rfl rfl (Or.inl rfl) (Or.inl rfl) (Or.inl rfl) (Or.inl rfl) (Or.inl rfl) (Or.inl rfl)))
    (qss_cons (qs_set (i := 6) scSomeWord.nd rfl (Or.inl rfl) (qe_op op_shl qe_int (qe_op op_sub (qv 2) (qv 4))))
    (qss_cons (qs_set (i := 7) scSomeWord.nd rfl (Or.inl rfl) (qe_lst (qa_c qe_int (qa_c qe_int (qa_c qe_int (qa_c qe_int (qa_c qe_int (qa_c qe_int (qa_c (qe_op op_sub (qv 6) qe_int) (qa_c (qe_op op_fdivB (qv 6) qe_int) (qa_c (qe_op op_sub (qe_op op_fdivB (qv 6) qe_int) qe_int) (qa_c (qe_def DDraw (hr.mono (by first | decide | exact Nat.le_refl _)) (qa_c (qv 0) (qa_c (qv 6) qa_nil))) qa_nil))))))))))))
    (qss_cons (qs_set (i := 8) scSomeWord.nd rfl (Or.inl rfl) (qe_op op_mod (qe_ix (ix_listK (K := K) rfl) (qv 7) (qe_def DDraw (hr.mono (by first | decide | exact Nat.le_refl _)) (qa_c (qv 0) (qa_c qe_int qa_nil))) (fun _ _ => rfl)) (qv 6)))
    (qss_cons (qs_set (i := 9) scSomeWord.nd rfl (Or.inl rfl) (qe_op op_add (qe_op op_mul (qv 8) (qe_op op_shl qe_int (qv 4))) (qv 5)))
    (qss_cons (qs_set (i := 10) scSomeWord.nd rfl (Or.inl rfl) (qe_op op_shl qe_int (qe_def DDraw (hr.mono (by first | decide | exact Nat.le_refl _)) (qa_c (qv 0) (qa_c (qv 4) qa_nil)))))
    (qss_one (qs_ret (qe_ix (ix_listK (K := K) rfl) (qe_lst (qa_c (qv 9) (qa_c (qv 9) (qa_c (qv 9) (qa_c (qe_op op_xor (qv 9) (qv 10)) (qa_c (qe_def DDraw (hr.mono (by first | decide | exact Nat.le_refl _)) (qa_c (qv 0) (qa_c (qe_op op_shl qe_int (qv 2)) qa_nil))) qa_nil)))))) (qe_def DDraw (hr.mono (by first | decide | exact Nat.le_refl _)) (qa_c (qv 0) (qa_c qe_int qa_nil))) (fun _ _ => rfl))))))))))), _, (cs_seq (cs_asg (ce_ixT (ce_var 1) (ce_c (.int _))) (cg_name 2))
      (cs_seq (cs_asg (ce_ixL (ce_ixT (ce_var 1) (ce_c (.int _))) (ce_callU (ca_cons (ce_var 0) (ca_cons (ce_c (.int _)) ca_nil)))) (cg_name3 3 4 5))
      (cs_seq (cs_asg (ce_op (opl_I fun _ _ => .int _) (ce_c (.int _)) (ce_op (opl_I0 fun _ _ => .int _) (ce_var 2) (ce_var 4))) (cg_name 6))
      (cs_seq (cs_asg (ce_lst (ca_cons (ce_c (.int _)) (ca_cons (ce_c (.int _)) (ca_cons (ce_c (.int _)) (ca_cons (ce_c (.int _)) (ca_cons (ce_c (.int _)) (ca_cons (ce_c (.int _)) (ca_cons (ce_op (opl_I0 fun _ _ => .int _) (ce_var 6) (ce_c (.int _))) (ca_cons (ce_op (opl_I fun _ _ => .int _) (ce_var 6) (ce_c (.int _))) (ca_cons (ce_op (opl_I0 fun _ _ => .int _) (ce_op (opl_I fun _ _ => .int _) (ce_var 6) (ce_c (.int _))) (ce_c (.int _))) (ca_cons (ce_callU (ca_cons (ce_var 0) (ca_cons (ce_var 6) ca_nil))) ca_nil))))))))))) (cg_name 7))
      (cs_seq (cs_asg (ce_op (opl_I fun _ _ => .int _) (ce_ixL (ce_var 7) (ce_callU (ca_cons (ce_var 0) (ca_cons (ce_c (.int _)) ca_nil)))) (ce_var 6)) (cg_name 8))
      (cs_seq (cs_asg (ce_op (opl_I0 fun _ _ => .int _) (ce_op (opl_I fun _ _ => .int _) (ce_var 8) (ce_op (opl_I fun _ _ => .int _) (ce_c (.int _)) (ce_var 4))) (ce_var 5)) (cg_name 9))
      (cs_seq (cs_asg (ce_op (opl_I fun _ _ => .int _) (ce_c (.int _)) (ce_callU (ca_cons (ce_var 0) (ca_cons (ce_var 4) ca_nil)))) (cg_name 10))
      (cs_ret (ce_ixL (ce_lst (ca_cons (ce_var 9) (ca_cons (ce_var 9) (ca_cons (ce_var 9) (ca_cons (ce_op (opl_I0 fun _ _ => .int _) (ce_var 9) (ce_var 10)) (ca_cons (ce_callU (ca_cons (ce_var 0) (ca_cons (ce_op (opl_I fun _ _ => .int _) (ce_c (.int _)) (ce_var 2)) ca_nil))) ca_nil)))))) (ce_callU (ca_cons (ce_var 0) (ca_cons (ce_c (.int _)) ca_nil)))))))))))), fun us M M1 Qu e1 h => ?_⟩
  obtain ⟨k, o, bits, ms, rfl, em, hB, hR, post⟩ := h
  obtain ⟨hkl, eM⟩ := MB_start em
  have hb1 := hR.b
  have hn5 := hR.n
  rw [e1.trans eM]
  walk_at "v"
  refine draw_at hkl hB (by decide) (by decide) fun d o1 d0 d1 B1 => ?_
  obtain ⟨j, rfl⟩ : ∃ j : Nat, d = (j : Int) := ⟨d.toNat, by omega⟩
  have hj : ms[j]? = some (ms[j]'(by omega)) := List.getElem?_eq_getElem _
  generalize ms[j]'(by omega) = m at hj
  have hmem := List.mem_of_getElem? hj
  have hmw := hR.w m hmem
  have hmp := hR.p m hmem
  have hnd := need_ge m.1
  refine ixl_at (atT hj) ?_
  walk_at "v"
  refine ⟨⟨by omega, by omega, by decide⟩, ?_⟩
  walk_at "v"
  have hb61 := pow_bits (bits := bits - m.2.1) (by omega) (by omega)
  refine ⟨⟨by decide, by decide⟩, ⟨by decide, by decide⟩, ?_⟩
  refine draw_at hkl B1 hb61.1 (log2_lt hb61.1 hb61.2) fun e o2 e0 e1 B2 => ?_
  walk_at "v"
  refine draw_at hkl B2 (by decide) (by decide) fun d10 o3 d100 d101 B3 => ?_
  obtain ⟨ld, hld⟩ : ∃ ld : Int, atI [T.int 0, .int 1, .int 2, .int 3, .int 127, .int 128, .int (1 * 2 ^ (bits - m.2.1).toNat - 1), .int (1 * 2 ^ (bits - m.2.1).toNat / 2), .int (1 * 2 ^ (bits - m.2.1).toNat / 2 - 1), .int e] d10 = some (.int ld) := by
    rcases (show d10 = 0 ∨ d10 = 1 ∨ d10 = 2 ∨ d10 = 3 ∨ d10 = 4 ∨ d10 = 5 ∨ d10 = 6 ∨ d10 = 7 ∨ d10 = 8 ∨ d10 = 9 by omega) with rfl | rfl | rfl | rfl | rfl | rfl | rfl | rfl | rfl | rfl <;> exact ⟨_, rfl⟩
  refine ixl_at hld ?_
  walk_at "v"
  refine ⟨hb61.1, ?_⟩
  walk_at "v"
  generalize hload : ld % (1 * 2 ^ (bits - m.2.1).toNat) = load
  have l0 : 0 ≤ load := by rw [← hload]; exact Int.emod_nonneg _ (by have := hb61.1; omega)
  have l1 : load < 2 ^ (bits - m.2.1).toNat := by
    rw [← hload]
    have := Int.emod_lt_of_pos ld hb61.1
    omega
  have hw61 := pow_bits (bits := m.2.1) (by omega) (by omega)
  refine ⟨⟨by omega, by omega, by decide⟩, .inr ⟨by omega, by omega⟩, ?_⟩
  walk_at "v"
  refine draw_at hkl B3 (by omega) (log2_lt (by omega) (by omega)) fun fl o4 fl0 fl1 B4 => ?_
  walk_at "v"
  have hwd := word_lt (bits := bits) (width := m.2.1) (load := load) (pattern := m.2.2) (by omega) (by omega) l0 l1 hmp.1 hmp.2
  have hb62 := pow_bits (bits := bits) (by omega) (by omega)
  refine ⟨⟨by omega, by omega, by decide⟩, ?_⟩
  walk_at "v"
  refine ⟨⟨by omega, by omega, by decide⟩, ?_⟩
  refine draw_at hkl B4 hb62.1 (log2_lt hb62.1 hb62.2) fun g o5 g0 g1 B5 => ?_
  walk_at "v"
  refine draw_at hkl B5 (by decide) (by decide) fun d5 o6 d50 d51 B6 => ?_
  have hfl : 0 ≤ (1 : Int) * 2 ^ fl.toNat ∧ (1 : Int) * 2 ^ fl.toNat < 2 ^ bits.toNat := by
    rw [Int.one_mul]
    exact ⟨Int.le_of_lt (two_pos _), pow_lt_of fl0 (by omega)⟩
  have hx := xor_lt hwd.1 hwd.2 hfl.1 hfl.2
  rw [Int.one_mul (2 ^ m.2.1.toNat)]
  obtain ⟨word, hwat, w0, w1⟩ : ∃ word : Int, atI [T.int (load * 2 ^ m.2.1.toNat + m.2.2), .int (load * 2 ^ m.2.1.toNat + m.2.2), .int (load * 2 ^ m.2.1.toNat + m.2.2), .int (Builtin.bitXor (load * 2 ^ m.2.1.toNat + m.2.2) (1 * 2 ^ fl.toNat)), .int g] d5 = some (.int word) ∧ 0 ≤ word ∧ word < 2 ^ bits.toNat := by
    rcases (show d5 = 0 ∨ d5 = 1 ∨ d5 = 2 ∨ d5 = 3 ∨ d5 = 4 by omega) with rfl | rfl | rfl | rfl | rfl
    · exact ⟨_, rfl, hwd.1, hwd.2⟩
    · exact ⟨_, rfl, hwd.1, hwd.2⟩
    · exact ⟨_, rfl, hwd.1, hwd.2⟩
    · exact ⟨_, rfl, hx.1, hx.2⟩
    · exact ⟨g, rfl, g0, by omega⟩
  refine ixl_at hwat ?_
  walk_at "v"
  refine ⟨MB_trim B6.pur, ?_⟩
  rw [MB_take]
  exact post word o6 B6 w0 w1

abbrev sAlike : Stmt := top 24
theorem scAlike : FnScope ["found", "due"] ["found", "due"] (defScope sAlike) := ⟨rfl, rfl, rfl, by decide +kernel, rfl, by decide +kernel, by decide +kernel⟩
theorem ndAlike1 : (["found", "due", "k"] : List Str).Nodup := by decide +kernel
def flatA : V → Bool
  | .non => true
  | .bl _ => true
  | .int _ => true
  | .str _ => true
  | _ => false
/-- data that are alike, to a depth -/
def AL (H : Hp) : Nat → V → V → Prop
  | 0, _, _ => False
  | n + 1, x, y => (x = y ∧ flatA x = true) ∨ ∃ (p q : Addr) (xs ys : List V), x = .ref p ∧ y = .ref q ∧ ((H p = some (.lst xs) ∧ H q = some (.lst ys)) ∨ (H p = some (.tup xs) ∧ H q = some (.tup ys))) ∧ xs.length = ys.length ∧ xs.length ≤ 100000 ∧ ∀ (j : Nat) (x y : V), xs[j]? = some x → ys[j]? = some y → AL H n x y
theorem AL.same {H H' : Hp} (s : Same H H') : ∀ {n : Nat} {x y : V}, AL H n x y → AL H' n x y
  | 0, _, _, h => h
  | n + 1, _, _, h => by
    rcases h with h | ⟨p, q, xs, ys, e1, e2, h, l1, l2, k⟩
    · exact .inl h
    · refine .inr ⟨p, q, xs, ys, e1, e2, ?_, l1, l2, fun j x y a b => (k j x y a b).same s⟩
      rcases h with ⟨h1, h2⟩ | ⟨h1, h2⟩
      · exact .inl ⟨s _ _ h1, s _ _ h2⟩
      · exact .inr ⟨s _ _ h1, s _ _ h2⟩
def spAlike (n : Nat) : Sp := fun vs H Q _ => ∃ x y : V, vs = [x, y] ∧ AL H n x y ∧ ∀ H', Same H H' → Q (.bl true) H'
theorem ty_flat {K : PySem.W.Frag} {H : Hp} {v : V} (h : flatA v = true) : ∃ t, TyOf K H v (.type t) ∧ PySem.W.kitAny K (.type t) [.type "list", .type "tuple"] = some false ∧ ∃ b i s, PySem.W.kitOne K (.type t) (.type "bool") = some b ∧ PySem.W.kitOne K (.type t) (.type "int") = some i ∧ PySem.W.kitOne K (.type t) (.type "str") = some s := by
  cases v with
  | non => exact ⟨_, TyOf.non, rfl, _, _, _, rfl, rfl, rfl⟩
  | bl b => exact ⟨_, TyOf.bl b, rfl, _, _, _, rfl, rfl, rfl⟩
  | int i => exact ⟨_, TyOf.int i, rfl, _, _, _, rfl, rfl, rfl⟩
  | str s => exact ⟨_, TyOf.str s, rfl, _, _, _, rfl, rfl, rfl⟩
  | _ => cases h
theorem ixA_at {H : Hp} {p : Addr} {xs : List V} {i : Int} {v : V} {Q : VK} (h : SqL K H p xs ∨ SqT K H p xs) (e : atI xs i = some v) (q : Q v H) : rIxA K (.ref p) (.int i) H Q :=
  h.elim (fun h => .inl ⟨p, xs, i, v, rfl, rfl, h, e, q⟩) fun h => .inr ⟨p, xs, i, v, rfl, rfl, h, e, q⟩
theorem ok_alike {n : Nat} {f : Addr} {fd : FuncData} (F : Fun K "_law_alike" "_law_alike" sAlike f fd) (N : Nms mg) (DAlike : Def P w K mg base "_law_alike" (n + 1) ["found", "due"] (spAlike n)) : FnOk P w K mg base CX0 (n + 2) f fd ["found", "due"] (spAlike (n + 1)) := by
  refine F.okQ scAlike (fun vs H Q E h => ?_) (fun cdv A outer s H vs Q E hr h => ?_)
  · obtain ⟨_, _, rfl, _⟩ := h
    rfl
  · obtain ⟨x, y, rfl, hA, k⟩ := h
    refine ⟨_, (qss_cons (qs_if (qt_val (qe_callB (call_isiT (K := K) rfl) (by rfl) N.isinstance b_isinstance (qa_c (qv 1) (qa_c (qe_tup (qa_c (qe_bltn (v := .ty "list") (by rfl) N.list b_list rfl) (qa_c (qe_bltn (v := .ty "tuple") (by rfl) N.tuple b_tuple rfl) qa_nil))) qa_nil))))
      (qss_cons (qs_if (qw_pt (qw_or (qt_not (qt_val (qe_callB (call_isiT (K := K) rfl) (by rfl) N.isinstance b_isinstance (qa_c (qv 0) (qa_c (qe_tup (qa_c (qe_bltn (v := .ty "list") (by rfl) N.list b_list rfl) (qa_c (qe_bltn (v := .ty "tuple") (by rfl) N.tuple b_tuple rfl) qa_nil))) qa_nil))))) (qw_or1 (qt_cmpR op_ne (qe_callB (call_isiK (K := K) rfl) (by rfl) N.isinstance b_isinstance (qa_c (qv 0) (qa_c (qe_bltn (v := .ty "list") (by rfl) N.list b_list rfl) qa_nil))) (qe_callB (call_isiK (K := K) rfl) (by rfl) N.isinstance b_isinstance (qa_c (qv 1) (qa_c (qe_bltn (v := .ty "list") (by rfl) N.list b_list rfl) qa_nil))) (nomark _)))))
        (qss_one (qs_ret qe_bl))
        qss_nil)
      (qss_cons (qs_if (qt_cmpR op_ne (qe_callB (call_lenAK (K := K) rfl) (by rfl) N.len b_len (qa_c (qv 0) qa_nil)) (qe_callB (call_lenAK (K := K) rfl) (by rfl) N.len b_len (qa_c (qv 1) qa_nil)) (nomark _))
        (qss_one (qs_ret qe_bl))
        qss_nil)
      (qss_one (qs_ret (qe_callB (call_all rfl) (by rfl) N.all b_all (qa_c (qe_lc [true, true] ["k"] (qi_range1 rfl N.range (qa_c (qe_callB (call_lenAK (K := K) rfl) (by rfl) N.len b_len (qa_c (qv 1) qa_nil)) qa_nil)) (fun _ _ _ => (qg_name (i := 2) ndAlike1 rfl (Or.inl rfl))) (fun _ _ _ => qts_nil) (fun _ _ _ => (qe_def DAlike (hr.mono (by first | decide | exact Nat.le_refl _)) (qa_c (qe_ix (ix_anyK (K := K) rfl) (qv 0) (qv 2) (fun _ _ => rfl)) (qa_c (qe_ix (ix_anyK (K := K) rfl) (qv 1) (qv 2) (fun _ _ => rfl)) qa_nil))))) qa_nil))))))
      qss_nil)
    (qss_cons (qs_if (qw_pt (qw_or (qt_cmpR op_ne (qe_callB (call_isiK (K := K) rfl) (by rfl) N.isinstance b_isinstance (qa_c (qv 0) (qa_c (qe_bltn (v := .ty "bool") (by rfl) N.bool b_bool rfl) qa_nil))) (qe_callB (call_isiK (K := K) rfl) (by rfl) N.isinstance b_isinstance (qa_c (qv 1) (qa_c (qe_bltn (v := .ty "bool") (by rfl) N.bool b_bool rfl) qa_nil))) (nomark _)) (qw_or1 (qt_cmpR op_ne (qe_callB (call_isiK (K := K) rfl) (by rfl) N.isinstance b_isinstance (qa_c (qv 0) (qa_c (qe_bltn (v := .ty "int") (by rfl) N.int b_int rfl) qa_nil))) (qe_callB (call_isiK (K := K) rfl) (by rfl) N.isinstance b_isinstance (qa_c (qv 1) (qa_c (qe_bltn (v := .ty "int") (by rfl) N.int b_int rfl) qa_nil))) (nomark _)))))
      (qss_one (qs_ret qe_bl))
      qss_nil)
    (qss_one (qs_ret (qe_and (qe_cmpR op_eq (qe_callB (call_isiK (K := K) rfl) (by rfl) N.isinstance b_isinstance (qa_c (qv 0) (qa_c (qe_bltn (v := .ty "str") (by rfl) N.str b_str rfl) qa_nil))) (qe_callB (call_isiK (K := K) rfl) (by rfl) N.isinstance b_isinstance (qa_c (qv 1) (qa_c (qe_bltn (v := .ty "str") (by rfl) N.str b_str rfl) qa_nil))) (nomark _)) (qe_one (qe_cmpR op_eq (qv 0) (qv 1) (nomark _)))))))), ?_⟩
    walk_at "go"
    refine ⟨by decide, fun p1 hp1 => ?_⟩
    walk_at "go"
    have s1 : Same H (upd H p1 (.tup [.ty "list", .ty "tuple"])) := (Same.refl H).upd hp1
    rcases hA with ⟨rfl, hf⟩ | ⟨p, q, xs, ys, rfl, rfl, h, l1, l2, kk⟩
    · obtain ⟨t, ty, e1, b, i, st, e2, e3, e4⟩ := ty_flat (K := K) (H := upd H p1 (.tup [.ty "list", .ty "tuple"])) hf
      refine ⟨x, p1, ["list", "tuple"], t, false, rfl, upd_same, ty, e1, ?_⟩
      walk_at "go"
      refine isi_at ty e2 ?_
      refine isi_at ty e2 ?_
      walk_at "go"
      refine ite2 (fun hh => absurd hh (by simp)) (fun _ => ?_)
      refine isi_at ty e3 ?_
      refine isi_at ty e3 ?_
      walk_at "go"
      refine ite2 (fun hh => absurd hh (by simp)) (fun _ => ?_)
      refine isi_at ty e4 ?_
      refine isi_at ty e4 ?_
      walk_at "go"
      have hq := k _ s1
      cases x with
      | non => exact eq_at rfl (by simpa [eqV] using hq)
      | bl b => exact eq_at rfl (by simpa [eqV] using hq)
      | int b => exact eq_at rfl (by simpa [eqV] using hq)
      | str b => exact eq_at rfl (by simpa [eqV] using hq)
      | _ => cases hf
    · obtain ⟨t, bl, tys, e1, e2⟩ : ∃ (t : String) (bl : Bool), (∀ H', Same H H' → TyOf K H' (.ref p) (.type t) ∧ TyOf K H' (.ref q) (.type t) ∧ (SqL K H' p xs ∨ SqT K H' p xs) ∧ (SqL K H' q ys ∨ SqT K H' q ys)) ∧ PySem.W.kitAny K (.type t) [.type "list", .type "tuple"] = some true ∧ PySem.W.kitOne K (.type t) (.type "list") = some bl := by
        rcases h with ⟨h1, h2⟩ | ⟨h1, h2⟩
        · exact ⟨"list", true, (fun H' s => ⟨TyOf.lst (s _ _ h1), TyOf.lst (s _ _ h2), .inl (SqL.of (s _ _ h1)), .inl (SqL.of (s _ _ h2))⟩), rfl, rfl⟩
        · exact ⟨"tuple", false, (fun H' s => ⟨TyOf.tup (s _ _ h1), TyOf.tup (s _ _ h2), .inr (SqT.of (s _ _ h1)), .inr (SqT.of (s _ _ h2))⟩), rfl, rfl⟩
      refine ⟨_, p1, ["list", "tuple"], t, true, rfl, upd_same, (tys _ s1).2.1, e1, ?_⟩
      walk_at "go"
      refine ⟨by decide, fun p2 hp2 => ?_⟩
      walk_at "go"
      have s2 := s1.trans ((Same.refl _).upd (o := .tup [.ty "list", .ty "tuple"]) hp2)
      refine ⟨_, p2, ["list", "tuple"], t, true, rfl, upd_same, (tys _ s2).1, e1, ?_⟩
      walk_at "go"
      refine ite2 (fun hh => absurd hh (by decide)) (fun _ => ?_)
      refine isi_at (tys _ s2).1 e2 ?_
      refine isi_at (tys _ s2).2.1 e2 ?_
      walk_at "go"
      refine ite2 (fun hh => absurd hh (by simp)) (fun _ => ?_)
      refine ⟨p, xs, rfl, (tys _ s2).2.2.1, ?_⟩
      refine ⟨q, ys, rfl, (tys _ s2).2.2.2, ?_⟩
      walk_at "go"
      refine ite2 (fun hh => absurd hh (by simp [l1])) (fun _ => ?_)
      refine ⟨q, ys, rfl, (tys _ s2).2.2.2, ?_⟩
      refine rg_at (by omega) (by omega) ?_
      intro acc hacc
      generalize upd (upd H p1 (.tup [.ty "list", .ty "tuple"])) p2 (.tup [.ty "list", .ty "tuple"]) = Hc at s2 hacc ⊢
      refine comp_range (fun i H3 => Same Hc H3 ∧ H3 acc = some (.lst ((List.replicate i true).map V.bl))) ?_ ?_ ?_
      · exact ⟨(Same.refl Hc).upd hacc, upd_same⟩
      · rintro i H3 hi ⟨s3, e3⟩
        walk_at "go"
        have hi1 : i < ys.length := by omega
        have hi2 : i < xs.length := by omega
        have g1 : xs[i]? = some xs[i] := List.getElem?_eq_getElem hi2
        have g2 : ys[i]? = some ys[i] := List.getElem?_eq_getElem hi1
        have s13 := s2.trans s3
        rw [Int.zero_add]
        refine ⟨⟨by walk_at "ext", trivial⟩, ixA_at (tys _ s13).2.2.1 (atI_nat g1) (ixA_at (tys _ s13).2.2.2 (atI_nat g2) ?_)⟩
        refine ⟨_, _, rfl, (kk i _ _ g1 g2).same s13, fun H6 s6 => ?_⟩
        refine ⟨_, s6 _ _ e3, ?_, (s3.trans s6).upd hacc, ?_⟩
        · rw [List.length_map, List.length_replicate]
          have : 100000 < sizeLine := by decide
          omega
        · rw [upd_same]
          have : (V.bl true :: List.map V.bl (List.replicate i true)) = List.map V.bl (List.replicate i true) ++ [V.bl true] := by
            rw [List.map_replicate, ← List.replicate_succ, List.replicate_succ']
          rw [this]
      · rintro H3 ⟨s3, e3⟩
        refine ⟨acc, List.replicate (Int.toNat ys.length) true, rfl, e3, ?_⟩
        have : (List.replicate (Int.toNat ys.length) true).all id = true := by simp
        rw [this]
        exact k H3 (s2.trans s3)
theorem ok_alike0 {f : Addr} {fd : FuncData} (F : Fun K "_law_alike" "_law_alike" sAlike f fd) : FnOk P w K mg base CX0 1 f fd ["found", "due"] (spAlike 0) := by
  refine F.okQ scAlike (fun vs H Q E h => ?_) (fun cdv A outer s H vs Q E hr h => ?_)
  · obtain ⟨_, _, _, h, _⟩ := h
    exact h.elim
  · obtain ⟨_, _, _, h, _⟩ := h
    exact h.elim
theorem ok_alike3 {f : Addr} {fd : FuncData} (F : Fun K "_law_alike" "_law_alike" sAlike f fd) (N : Nms mg) (hm : mg "_law_alike" = some (.ref f)) (hk : PySem.W.keepIn K (.ref f) = true) (hb : Binds K fd ["found", "due"] []) : FnOk P w K mg base CX0 4 f fd ["found", "due"] (spAlike 3) :=
  ok_alike F N ⟨f, fd, hm, hk, hb, ok_alike F N ⟨f, fd, hm, hk, hb, ok_alike F N ⟨f, fd, hm, hk, hb, ok_alike0 F⟩⟩⟩

/-- trees of ints, truths and texts, to a depth -/
def depT : Nat → T → Prop
  | 0, _ => False
  | n + 1, .tup xs => xs.length ≤ 100000 ∧ ∀ x ∈ xs, depT n x
  | n + 1, .lst xs => xs.length ≤ 100000 ∧ ∀ x ∈ xs, depT n x
  | _ + 1, _ => True
def gAlike (n : Nat) : List T → (T → Prop) → Prop := fun ts Q => ∃ t, ts = [t, t] ∧ depT n t ∧ Q (.bl true)
theorem al_of {A : Addr → Prop} {H : Hp} : ∀ {n : Nat} {t : T} {x y : V}, depT n t → RepT A H x t → RepT A H y t → AL H n x y
  | 0, _, _, _, h, _, _ => h.elim
  | n + 1, .non, _, _, _, .non, .non => .inl ⟨rfl, rfl⟩
  | n + 1, .bl b, _, _, _, .bl _, .bl _ => .inl ⟨rfl, rfl⟩
  | n + 1, .int b, _, _, _, .int _, .int _ => .inl ⟨rfl, rfl⟩
  | n + 1, .str b, _, _, _, .str _, .str _ => .inl ⟨rfl, rfl⟩
  | n + 1, .tup xs, x, y, h, r1, r2 => by
    obtain ⟨p, vs, rfl, _, h1, q1⟩ := r1.tup_inv
    obtain ⟨p2, vs2, rfl, _, h2, q2⟩ := r2.tup_inv
    refine .inr ⟨p, p2, vs, vs2, rfl, rfl, .inr ⟨h1, h2⟩, by rw [q1.len, q2.len], by rw [q1.len]; exact h.1, fun j a b ha hb => ?_⟩
    obtain ⟨t, ht, rt⟩ := Paired.getL q1 ha
    obtain ⟨t', ht', rt'⟩ := Paired.getL q2 hb
    rw [ht] at ht'; cases ht'
    exact al_of (h.2 t (List.mem_of_getElem? ht)) rt rt'
  | n + 1, .lst xs, x, y, h, r1, r2 => by
    obtain ⟨p, vs, rfl, _, h1, q1⟩ := r1.lst_inv
    obtain ⟨p2, vs2, rfl, _, h2, q2⟩ := r2.lst_inv
    refine .inr ⟨p, p2, vs, vs2, rfl, rfl, .inl ⟨h1, h2⟩, by rw [q1.len, q2.len], by rw [q1.len]; exact h.1, fun j a b ha hb => ?_⟩
    obtain ⟨t, ht, rt⟩ := Paired.getL q1 ha
    obtain ⟨t', ht', rt'⟩ := Paired.getL q2 hb
    rw [ht] at ht'; cases ht'
    exact al_of (h.2 t (List.mem_of_getElem? ht)) rt rt'
theorem ok_alike3U {f : Addr} {fd : FuncData} (F : Fun K "_law_alike" "_law_alike" sAlike f fd) (N : Nms mg) (hm : mg "_law_alike" = some (.ref f)) (hk : PySem.W.keepIn K (.ref f) = true) (hb : Binds K fd ["found", "due"] []) : FnOk P w K mg base CX0 4 f fd ["found", "due"] (spP (gAlike 3)) := by
  refine (ok_alike3 F N hm hk hb).imp fun vs H Q E h => ?_
  obtain ⟨A, ts, Qt, hd, r, ⟨t, rfl, hdep, q⟩, k⟩ := h
  cases r with
  | cons r1 r =>
  cases r with
  | cons r2 r =>
  cases r
  exact ⟨_, _, rfl, al_of hdep r1 r2, fun H' s => k _ _ H' s (.bl true) q⟩

/-! ### worths as kinds and loads -/
abbrev KL := Str × Int
def tOf (x : KL) : T := if x.1 = "small" then .int x.2 else if x.1 = "one" then .str (three3.getD x.2.toNat "none") else .tup [.str x.1, .int x.2]
/-- what words can hold -/
structure Vld (bits : Int) (ms : List Mk3) (x : KL) (m : Mk3) : Prop where
  k : OfKind ms x.1 m
  s : x.1 = "small" → -(2 ^ (bits - m.2.1 - 1).toNat) ≤ x.2 ∧ x.2 < 2 ^ (bits - m.2.1 - 1).toNat
  o : x.1 ≠ "small" → 0 ≤ x.2 ∧ x.2 < 2 ^ (bits - m.2.1).toNat
  g : x.1 = "sign" → x.2 < 128
  t : x.1 = "one" → x.2 < 3
theorem on_cons {bits : Int} {ms : List Mk3} (r : Right bits ms) {word : Int} {m : Mk3} (hm : m ∈ ms) (h : on word m = true) : ∃ l, ms.filter (on word) = m :: l := by
  have hmem : m ∈ ms.filter (on word) := List.mem_filter.mpr ⟨hm, h⟩
  have hpw : (ms.filter (on word)).Pairwise fun m m' => Disj m.2 m'.2 := r.d.sublist List.filter_sublist
  cases e : ms.filter (on word) with
  | nil => rw [e] at hmem; cases hmem
  | cons a l =>
    rw [e] at hmem hpw
    rcases List.mem_cons.mp hmem with rfl | hl
    · exact ⟨l, rfl⟩
    · have ha : on word a = true := (List.mem_filter.mp (by rw [e]; exact List.mem_cons_self)).2
      exact absurd ⟨of_decide_eq_true ha, of_decide_eq_true h⟩ ((List.pairwise_cons.mp hpw).1 m hl word)
theorem half_two {s : Int} (h : 1 ≤ s) : (2 : Int) ^ s.toNat = 2 * 2 ^ (s - 1).toNat := by
  have e : s.toNat = (s - 1).toNat + 1 := by omega
  rw [e, Int.pow_succ, Int.mul_comm]
theorem small_back {s l : Int} (h : 1 ≤ s) (h1 : -(2 ^ (s - 1).toNat) ≤ l) (h2 : l < 2 ^ (s - 1).toNat) : smallOf s (l % 2 ^ s.toNat) = l := by
  unfold smallOf
  rw [half_two h]
  generalize (2 : Int) ^ (s - 1).toNat = a at h1 h2 ⊢
  by_cases hl : 0 ≤ l
  · rw [Int.emod_eq_of_lt hl (by omega), if_neg (by omega)]
  · have : l % (2 * a) = l + 2 * a := by
      rw [← Int.add_emod_right, Int.emod_eq_of_lt (by omega) (by omega)]
    rw [this, if_pos (by omega)]
    omega
theorem small_there {s l : Int} (h : 1 ≤ s) (h1 : 0 ≤ l) (h2 : l < 2 ^ s.toNat) : -(2 ^ (s - 1).toNat) ≤ smallOf s l ∧ smallOf s l < 2 ^ (s - 1).toNat ∧ smallOf s l % 2 ^ s.toNat = l := by
  unfold smallOf
  rw [half_two h] at h2 ⊢
  have hp := two_pos (s - 1).toNat
  generalize (2 : Int) ^ (s - 1).toNat = a at h1 h2 hp ⊢
  split
  · refine ⟨by omega, by omega, ?_⟩
    have : (l - 2 * a) % (2 * a) = l % (2 * a) := by rw [← Int.add_emod_right (l - 2 * a), Int.sub_add_cancel]
    rw [this, Int.emod_eq_of_lt h1 h2]
  · exact ⟨by omega, by omega, Int.emod_eq_of_lt h1 h2⟩
theorem div_word {load w p : Int} (p0 : 0 ≤ p) (p1 : p < 2 ^ w.toNat) : (load * 2 ^ w.toNat + p) / 2 ^ w.toNat = load ∧ (load * 2 ^ w.toNat + p) % 2 ^ w.toNat = p := by
  have hp := two_pos w.toNat
  constructor
  · rw [Int.add_comm, Int.add_mul_ediv_right _ _ (Int.ne_of_gt hp), Int.ediv_eq_zero_of_lt p0 p1, Int.zero_add]
  · rw [Int.add_comm, Int.add_mul_emod_self_right]
    exact Int.emod_eq_of_lt p0 p1
theorem Vld.load {bits : Int} {ms : List Mk3} {x : KL} {m : Mk3} (h : Vld bits ms x m) : 0 ≤ x.2 % 2 ^ (bits - m.2.1).toNat ∧ x.2 % 2 ^ (bits - m.2.1).toNat < 2 ^ (bits - m.2.1).toNat :=
  ⟨Int.emod_nonneg _ (Int.ne_of_gt (two_pos _)), Int.emod_lt_of_pos _ (two_pos _)⟩
theorem Vld.there {bits : Int} {ms : List Mk3} (r : Right bits ms) {x : KL} {m : Mk3} (h : Vld bits ms x m) : 0 ≤ wordOf bits m x.2 ∧ wordOf bits m x.2 < 2 ^ bits.toNat ∧ worthT bits ms (wordOf bits m x.2) = tOf x := by
  have hb := r.b
  have hmw := r.w m h.k.mem
  have hmp := r.p m h.k.mem
  have hnd := need_ge m.1
  have hl := h.load
  have hwd := word_lt (bits := bits) (width := m.2.1) (by omega) (by omega) hl.1 hl.2 hmp.1 hmp.2
  refine ⟨hwd.1, hwd.2, ?_⟩
  unfold wordOf
  have hd := div_word (load := x.2 % 2 ^ (bits - m.2.1).toNat) (w := m.2.1) hmp.1 hmp.2
  obtain ⟨l, e⟩ := on_cons r (word := x.2 % 2 ^ (bits - m.2.1).toNat * 2 ^ m.2.1.toNat + m.2.2) h.k.mem (decide_eq_true hd.2)
  unfold worthT
  rw [e]
  simp only
  rw [hd.1]
  unfold worthM tOf
  rw [h.k.is]
  by_cases h1 : x.1 = "small"
  · rw [if_pos h1, if_pos h1]
    rw [small_back (by omega) (h.s h1).1 (h.s h1).2]
  · have ho := h.o h1
    rw [if_neg h1, if_neg h1, Int.emod_eq_of_lt ho.1 ho.2]
    by_cases h2 : x.1 = "one"
    · rw [if_pos h2, if_pos h2, if_pos (h.t h2)]
    · rw [if_neg h2, if_neg h2, if_neg (fun z => by have := h.g z.1; omega)]
theorem Vld.back {bits : Int} {ms : List Mk3} (r : Right bits ms) {word : Int} (h0 : 0 ≤ word) (h1 : word < 2 ^ bits.toNat) : worthT bits ms word = .non ∨ ∃ x m, Vld bits ms x m ∧ worthT bits ms word = tOf x ∧ wordOf bits m x.2 = word := by
  have hb := r.b
  unfold worthT
  cases e : ms.filter (on word) with
  | nil => exact .inl rfl
  | cons m l =>
    simp only
    have hmf := List.mem_filter.mp (show m ∈ ms.filter (on word) by rw [e]; exact List.mem_cons_self)
    have hmem := hmf.1
    have hon : word % 2 ^ m.2.1.toNat = m.2.2 := of_decide_eq_true hmf.2
    have hmw := r.w m hmem
    have hmk := r.ofKind hmem
    have hnd := need_ge m.1
    have hp := two_pos m.2.1.toNat
    have hl0 : 0 ≤ word / 2 ^ m.2.1.toNat := Int.ediv_nonneg h0 (Int.le_of_lt hp)
    have hl1 : word / 2 ^ m.2.1.toNat < 2 ^ (bits - m.2.1).toNat := by
      rw [pow_split (bits := bits) (width := m.2.1) (by omega) (by omega)] at h1
      exact Int.ediv_lt_of_lt_mul hp h1
    have hrec : word / 2 ^ m.2.1.toNat * 2 ^ m.2.1.toNat + m.2.2 = word := by
      rw [← hon, Int.mul_comm]; exact Int.mul_ediv_add_emod word _
    generalize word / 2 ^ m.2.1.toNat = load at hl0 hl1 hrec
    unfold worthM
    by_cases h1 : m.1 = "small"
    · have hs := small_there (s := bits - m.2.1) (by omega) hl0 hl1
      rw [if_pos h1]
      refine .inr ⟨(m.1, smallOf (bits - m.2.1) load), m, ⟨hmk, fun _ => ⟨hs.1, hs.2.1⟩, fun z => absurd h1 z, fun z => ?_, fun z => ?_⟩, by unfold tOf; rw [if_pos h1], ?_⟩
      · rw [h1] at z; exact absurd z (by decide)
      · rw [h1] at z; exact absurd z (by decide)
      · unfold wordOf
        rw [hs.2.2, hrec]
    rw [if_neg h1]
    have hwo : wordOf bits m load = word := by unfold wordOf; rw [Int.emod_eq_of_lt hl0 hl1, hrec]
    by_cases h2 : m.1 = "one"
    · rw [if_pos h2]
      by_cases h3 : load < 3
      · rw [if_pos h3]
        refine .inr ⟨(m.1, load), m, ⟨hmk, fun z => absurd z h1, fun _ => ⟨hl0, hl1⟩, fun z => ?_, fun _ => h3⟩, by unfold tOf; rw [if_neg h1, if_pos h2], hwo⟩
        rw [h2] at z; exact absurd z (by decide)
      · rw [if_neg h3]; exact .inl rfl
    rw [if_neg h2]
    by_cases h3 : m.1 = "sign" ∧ 128 ≤ load
    · rw [if_pos h3]; exact .inl rfl
    · rw [if_neg h3]
      refine .inr ⟨(m.1, load), m, ⟨hmk, fun z => absurd z h1, fun _ => ⟨hl0, hl1⟩, fun z => ?_, fun z => absurd z h2⟩, by unfold tOf; rw [if_neg h1, if_neg h2], hwo⟩
      have : ¬ 128 ≤ load := fun y => h3 ⟨z, y⟩
      show load < 128
      omega
theorem three_at {l : Int} (h0 : 0 ≤ l) (h1 : l < 3) : three3[l.toNat]? = some (three3.getD l.toNat "none") := by
  rcases (show l = 0 ∨ l = 1 ∨ l = 2 by omega) with rfl | rfl | rfl <;> rfl
/-- the tree as word_of takes it -/
theorem Vld.worth {bits : Int} {ms : List Mk3} {x : KL} {m : Mk3} (h : Vld bits ms x m) : WorthT (tOf x) x.1 x.2 := by
  unfold tOf
  split
  · rename_i h1; rw [h1]; exact .int _
  · split
    · rename_i h1 h2
      have ho := h.o h1
      have := WorthT.one (three_at ho.1 (h.t h2))
      rw [Int.toNat_of_nonneg ho.1] at this
      rw [h2]
      exact this
    · exact .tup _
theorem tOf_non (x : KL) : tOf x ≠ .non := by unfold tOf; split <;> (try split) <;> simp
theorem WorthT.det {t : T} {k k' : Str} {l l' : Int} (a : WorthT t k l) (b : WorthT t k' l') : k = k' ∧ l = l' := by
  cases a with
  | int n => cases b; exact ⟨rfl, rfl⟩
  | tup => cases b; exact ⟨rfl, rfl⟩
  | @one _ j h =>
    cases b with
    | @one _ j' h' =>
      have := three_first h j'
      have := three_first h' j
      refine ⟨rfl, ?_⟩
      rcases Nat.lt_trichotomy j j' with z | z | z
      · exact absurd h (three_first h' j z)
      · rw [z]
      · exact absurd h' (three_first h j' z)
theorem tOf_inj {bits : Int} {ms : List Mk3} {x y : KL} {m m' : Mk3} (h : Vld bits ms x m) (h' : Vld bits ms y m') (e : tOf x = tOf y) : x = y := by
  have a := h.worth
  rw [e] at a
  obtain ⟨e1, e2⟩ := a.det h'.worth
  exact Prod.ext e1 e2
/-! all of them -/
def rgK (k : Str) (a : Int) (n : Nat) : List KL := (List.range n).map fun i : Nat => (k, a + (i : Int))
theorem mem_rgK {k : Str} {a : Int} {n : Nat} {x : KL} : x ∈ rgK k a n ↔ x.1 = k ∧ a ≤ x.2 ∧ x.2 < a + n := by
  unfold rgK
  rw [List.mem_map]
  constructor
  · rintro ⟨i, hi, rfl⟩
    have := List.mem_range.mp hi
    exact ⟨rfl, by simp only; omega, by simp only; omega⟩
  · rintro ⟨h1, h2, h3⟩
    exact ⟨(x.2 - a).toNat, List.mem_range.mpr (by omega), Prod.ext h1.symm (by simp only; omega)⟩
theorem nd_rgK {k : Str} {a : Int} {n : Nat} : (rgK k a n).Nodup := by
  unfold rgK
  refine List.Pairwise.map _ (fun i j h e => h ?_) List.nodup_range
  have := (Prod.mk.inj e).2
  omega
def allKL (half nf np : Nat) : List KL := rgK "small" (-(half : Int)) (2 * half) ++ rgK "sign" 0 128 ++ rgK "one" 0 3 ++ rgK "far" 0 nf ++ rgK "pair" 0 np
theorem nd_allKL {half nf np : Nat} : (allKL half nf np).Nodup := by
  have ap : ∀ {l l' : List KL}, l.Nodup → l'.Nodup → (∀ x ∈ l, ∀ y ∈ l', x.1 ≠ y.1) → (l ++ l').Nodup := fun a b h => List.nodup_append.mpr ⟨a, b, fun x hx y hy e => h x hx y hy (by rw [e])⟩
  unfold allKL
  refine ap (ap (ap (ap nd_rgK nd_rgK ?_) nd_rgK ?_) nd_rgK ?_) nd_rgK ?_
  all_goals
    intro x hx y hy
    simp only [List.mem_append, mem_rgK] at hx hy
    rw [hy.1]
    intro z
    rw [z] at hx
    first
      | exact absurd hx.1 (by decide)
      | (rcases hx with hx | hx <;> exact absurd hx.1 (by decide))
      | (rcases hx with (hx | hx) | hx <;> exact absurd hx.1 (by decide))
      | (rcases hx with ((hx | hx) | hx) | hx <;> exact absurd hx.1 (by decide))
theorem mem_allKL {half nf np : Nat} {x : KL} : x ∈ allKL half nf np ↔ (x.1 = "small" ∧ -(half : Int) ≤ x.2 ∧ x.2 < half) ∨ (x.1 = "sign" ∧ 0 ≤ x.2 ∧ x.2 < 128) ∨ (x.1 = "one" ∧ 0 ≤ x.2 ∧ x.2 < 3) ∨ (x.1 = "far" ∧ 0 ≤ x.2 ∧ x.2 < nf) ∨ (x.1 = "pair" ∧ 0 ≤ x.2 ∧ x.2 < np) := by
  unfold allKL
  simp only [List.mem_append, mem_rgK]
  constructor
  · rintro ((((⟨a, b, c⟩ | ⟨a, b, c⟩) | ⟨a, b, c⟩) | ⟨a, b, c⟩) | ⟨a, b, c⟩)
    · exact .inl ⟨a, b, by omega⟩
    · exact .inr (.inl ⟨a, b, by omega⟩)
    · exact .inr (.inr (.inl ⟨a, b, by omega⟩))
    · exact .inr (.inr (.inr (.inl ⟨a, b, by omega⟩)))
    · exact .inr (.inr (.inr (.inr ⟨a, b, by omega⟩)))
  · rintro (⟨a, b, c⟩ | ⟨a, b, c⟩ | ⟨a, b, c⟩ | ⟨a, b, c⟩ | ⟨a, b, c⟩)
    · exact .inl (.inl (.inl (.inl ⟨a, b, by omega⟩)))
    · exact .inl (.inl (.inl (.inr ⟨a, b, by omega⟩)))
    · exact .inl (.inl (.inr ⟨a, b, by omega⟩))
    · exact .inl (.inr ⟨a, b, by omega⟩)
    · exact .inr ⟨a, b, by omega⟩
def markK (ms : List Mk3) (kind : Str) : Mk3 := (ms.filter fun m => decide (m.1 = kind)).headD ("", 0, 0)
theorem OfKind.mk {ms : List Mk3} {kind : Str} {m : Mk3} (h : OfKind ms kind m) : markK ms kind = m := by
  obtain ⟨r, e⟩ := h
  unfold markK
  rw [e]
  rfl
def wdK (bits : Int) (ms : List Mk3) (x : KL) : Int := wordOf bits (markK ms x.1) x.2
def loadK (bits : Int) (ms : List Mk3) (kind : Str) : Nat := (bits - (markK ms kind).2.1).toNat
/-- all worths of a laying -/
def allOf (bits : Int) (ms : List Mk3) : List KL := allKL (2 ^ (bits - (markK ms "small").2.1 - 1).toNat) (2 ^ loadK bits ms "far") (2 ^ loadK bits ms "pair")
theorem mem_allOf {bits : Int} {ms : List Mk3} (r : Right bits ms) {x : KL} : x ∈ allOf bits ms ↔ ∃ m, Vld bits ms x m := by
  unfold allOf loadK
  rw [mem_allKL]
  have cast : ∀ n : Nat, ((2 ^ n : Nat) : Int) = 2 ^ n := fun n => by push_cast; rfl
  simp only [cast]
  obtain ⟨m1, h1⟩ := r.kind (kind := "small") (by decide)
  obtain ⟨m2, h2⟩ := r.kind (kind := "sign") (by decide)
  obtain ⟨m3, h3⟩ := r.kind (kind := "one") (by decide)
  obtain ⟨m4, h4⟩ := r.kind (kind := "far") (by decide)
  obtain ⟨m5, h5⟩ := r.kind (kind := "pair") (by decide)
  rw [h1.mk, h4.mk, h5.mk]
  have p7 : ∀ {n : Int}, 7 ≤ n → (128 : Int) ≤ 2 ^ n.toNat := fun {n} h => by
    have : (2 : Nat) ^ 7 ≤ 2 ^ n.toNat := Nat.pow_le_pow_right (by decide) (by omega)
    exact_mod_cast this
  have p2 : ∀ {n : Int}, 2 ≤ n → (4 : Int) ≤ 2 ^ n.toNat := fun {n} h => by
    have : (2 : Nat) ^ 2 ≤ 2 ^ n.toNat := Nat.pow_le_pow_right (by decide) (by omega)
    exact_mod_cast this
  have nk : ∀ {a b : Str}, a = b → a ≠ b → False := fun e n => n e
  constructor
  · obtain ⟨k, l⟩ := x
    simp only
    rintro (⟨rfl, b, c⟩ | ⟨rfl, b, c⟩ | ⟨rfl, b, c⟩ | ⟨rfl, b, c⟩ | ⟨rfl, b, c⟩)
    · exact ⟨m1, h1, fun _ => ⟨b, c⟩, fun z => absurd rfl z, fun z => (nk z (by dsimp only; decide)).elim, fun z => (nk z (by dsimp only; decide)).elim⟩
    · have hw := r.w m2 h2.mem
      rw [h2.is] at hw
      have := p7 (n := bits - m2.2.1) (by have : need "sign" = 7 := rfl; omega)
      exact ⟨m2, h2, fun z => (nk z (by dsimp only; decide)).elim, fun _ => ⟨b, by simp only; omega⟩, fun _ => c, fun z => (nk z (by dsimp only; decide)).elim⟩
    · have hw := r.w m3 h3.mem
      rw [h3.is] at hw
      have := p2 (n := bits - m3.2.1) (by have : need "one" = 2 := rfl; omega)
      exact ⟨m3, h3, fun z => (nk z (by dsimp only; decide)).elim, fun _ => ⟨b, by simp only; omega⟩, fun z => (nk z (by dsimp only; decide)).elim, fun _ => c⟩
    · exact ⟨m4, h4, fun z => (nk z (by dsimp only; decide)).elim, fun _ => ⟨b, c⟩, fun z => (nk z (by dsimp only; decide)).elim, fun z => (nk z (by dsimp only; decide)).elim⟩
    · exact ⟨m5, h5, fun z => (nk z (by dsimp only; decide)).elim, fun _ => ⟨b, c⟩, fun z => (nk z (by dsimp only; decide)).elim, fun z => (nk z (by dsimp only; decide)).elim⟩
  · rintro ⟨m, h⟩
    have hk : x.1 ∈ fiveK := by
      rw [← h.k.is]
      exact r.k.mem_iff.mp (List.mem_map.mpr ⟨m, h.k.mem, rfl⟩)
    have hmk := h.k.mk
    simp only [fiveK, List.mem_cons, List.not_mem_nil, or_false] at hk
    rcases hk with e | e | e | e | e
    · have hs := h.s e
      rw [e, h1.mk] at hmk
      subst hmk
      exact .inl ⟨e, hs⟩
    · have ho := h.o (by rw [e]; decide)
      rw [e, h4.mk] at hmk
      subst hmk
      exact .inr (.inr (.inr (.inl ⟨e, ho⟩)))
    · have ho := h.o (by rw [e]; decide)
      rw [e, h5.mk] at hmk
      subst hmk
      exact .inr (.inr (.inr (.inr ⟨e, ho⟩)))
    · have ho := h.o (by rw [e]; decide)
      exact .inr (.inl ⟨e, ho.1, h.g e⟩)
    · have ho := h.o (by rw [e]; decide)
      exact .inr (.inr (.inl ⟨e, ho.1, h.t e⟩))
theorem mem_allOf' {bits : Int} {ms : List Mk3} (r : Right bits ms) {x : KL} (h : x ∈ allOf bits ms) : Vld bits ms x (markK ms x.1) := by
  obtain ⟨m, hm⟩ := (mem_allOf r).mp h
  rw [hm.k.mk]
  exact hm
/-! a dict of words -/
theorem valW {f : KL → Int} {g : KL → U} {z : Int} : ∀ {l : List KL}, (valU (l.map fun x => ((.inl (f x) : Key), g x)) (.inl z)).isSome = l.any fun x => decide (f x = z)
  | [] => rfl
  | x :: l => by
    have ih := valW (f := f) (g := g) (z := z) (l := l)
    unfold valU at ih ⊢
    rw [List.map_cons, List.find?_cons, List.any_cons]
    by_cases h : f x = z
    · simp [h]
    · have : ((.inl (f x) : Key) = .inl z) = False := by simp [h]
      simp only [this, decide_false]
      simp only [h, decide_false, Bool.false_or]
      exact ih
theorem putW {f : KL → Int} {g : KL → U} {z : Int} {v : U} {l : List KL} (h : l.any (fun x => decide (f x = z)) = false) : putU (l.map fun x => ((.inl (f x) : Key), g x)) (.inl z) v = (l.map fun x => ((.inl (f x) : Key), g x)) ++ [(.inl z, v)] := by
  unfold putU
  rw [if_neg]
  rw [List.any_map]
  intro z'
  obtain ⟨x, hx, e⟩ := List.any_eq_true.mp z'
  have : l.any (fun x => decide (f x = z)) = true := List.any_eq_true.mpr ⟨x, hx, by simpa using e⟩
  rw [h] at this
  cases this

theorem allKL_trees {half nf np : Nat} : (allKL half nf np).map tOf = (List.range (2 * half)).map (fun k : Nat => T.int (0 - (half : Int) + (k : Int))) ++ (List.range 128).map (fun k : Nat => T.tup [.str "sign", .int (k : Int)]) ++ [.str "none", .str "no", .str "yes"] ++ (List.range nf).map (fun k : Nat => T.tup [.str "far", .int (k : Int)]) ++ (List.range np).map (fun k : Nat => T.tup [.str "pair", .int (k : Int)]) := by
  have e1 : ∀ (a : Int) (n : Nat), (rgK "small" a n).map tOf = (List.range n).map (fun k : Nat => T.int (a + (k : Int))) := fun a n => by
    unfold rgK
    rw [List.map_map]
    rfl
  have e2 : ∀ (n : Nat), (rgK "sign" 0 n).map tOf = (List.range n).map (fun k : Nat => T.tup [.str "sign", .int (k : Int)]) := fun n => by
    unfold rgK
    rw [List.map_map]
    refine List.map_congr_left fun k _ => ?_
    show tOf ("sign", 0 + (k : Int)) = _
    rw [Int.zero_add]
    rfl
  have e3 : ∀ (n : Nat), (rgK "far" 0 n).map tOf = (List.range n).map (fun k : Nat => T.tup [.str "far", .int (k : Int)]) := fun n => by
    unfold rgK
    rw [List.map_map]
    refine List.map_congr_left fun k _ => ?_
    show tOf ("far", 0 + (k : Int)) = _
    rw [Int.zero_add]
    rfl
  have e4 : ∀ (n : Nat), (rgK "pair" 0 n).map tOf = (List.range n).map (fun k : Nat => T.tup [.str "pair", .int (k : Int)]) := fun n => by
    unfold rgK
    rw [List.map_map]
    refine List.map_congr_left fun k _ => ?_
    show tOf ("pair", 0 + (k : Int)) = _
    rw [Int.zero_add]
    rfl
  have e5 : (rgK "one" 0 3).map tOf = [.str "none", .str "no", .str "yes"] := rfl
  unfold allKL
  rw [List.map_append, List.map_append, List.map_append, List.map_append, e1, e2, e3, e4, e5, Int.zero_sub]
theorem pow_nat (n : Nat) : (1 : Int) * 2 ^ n = ((2 ^ n : Nat) : Int) := by rw [Int.one_mul]; push_cast; rfl
theorem pow_le_1024 {a : Int} (h : a ≤ 10) : 2 ^ a.toNat ≤ 1024 := by
  have : (2 : Nat) ^ a.toNat ≤ 2 ^ 10 := Nat.pow_le_pow_right (by decide) (by omega)
  exact this
abbrev sAllWorths : Stmt := top 25
theorem scAllWorths : FnScope ["laying", "half", "some"] ["laying"] (defScope sAllWorths) := ⟨rfl, rfl, rfl, by decide +kernel, rfl, by decide +kernel, by decide +kernel⟩
theorem ndAllWorths1 : (["laying", "half", "some", "k"] : List Str).Nodup := by decide +kernel
def gAllWorths : List T → (T → Prop) → Prop := fun ts Q => ∃ (bits : Int) (ms : List Mk3), ts = [layT bits ms] ∧ Right bits ms ∧ bits ≤ 10 ∧ Q (.lst ((allOf bits ms).map tOf))
theorem ok_all_worthsU {f : Addr} {fd : FuncData} (F : Fun K "_law_all_worths" "_law_all_worths" sAllWorths f fd) (N : Nms mg) (DLoad : Def P w K mg base "_law_load" 2 ["laying", "kind"] (spP gLoad)) : FnOk P w K mg base CX0 3 f fd ["laying"] (spP gAllWorths) := by
  refine F.zP scAllWorths (fun ts Qt h => ?_) (fun cdv A outer s H E hr => ?_)
  · obtain ⟨_, _, rfl, _⟩ := h
    rfl
  refine ⟨_, (qss_cons (qs_set (i := 1) scAllWorths.nd rfl (Or.inl rfl) (qe_op op_shl qe_int (qe_op op_sub (qe_def DLoad (hr.mono (by first | decide | exact Nat.le_refl _)) (qa_c (qv 0) (qa_c qe_str qa_nil))) qe_int)))
    (qss_cons (qs_set (i := 2) scAllWorths.nd rfl (Or.inl rfl) (qe_op op_cat (qe_op op_cat (qe_callTy (call_list_rng rfl) (by rfl) N.list b_list (qa_c (qe_callTy call_range2 (by rfl) N.range b_range (qa_c (qe_op op_sub qe_int (qv 1)) (qa_c (qv 1) qa_nil))) qa_nil)) (qe_lc [false, false, false] ["k"] (qi_range1 rfl N.range (qa_c qe_int qa_nil)) (fun _ _ _ => (qg_name (i := 3) ndAllWorths1 rfl (Or.inl rfl))) (fun _ _ _ => qts_nil) (fun _ _ _ => (qe_tup (qa_c qe_str (qa_c (qv 3) qa_nil)))))) (qe_lst (qa_c qe_str (qa_c qe_str (qa_c qe_str qa_nil))))))
    (qss_cons (qs_set (i := 2) scAllWorths.nd rfl (Or.inl rfl) (qe_op op_cat (qv 2) (qe_lc [false, false, false] ["k"] (qi_range1 rfl N.range (qa_c (qe_op op_shl qe_int (qe_def DLoad (hr.mono (by first | decide | exact Nat.le_refl _)) (qa_c (qv 0) (qa_c qe_str qa_nil)))) qa_nil)) (fun _ _ _ => (qg_name (i := 3) ndAllWorths1 rfl (Or.inl rfl))) (fun _ _ _ => qts_nil) (fun _ _ _ => (qe_tup (qa_c qe_str (qa_c (qv 3) qa_nil)))))))
    (qss_one (qs_ret (qe_op op_cat (qv 2) (qe_lc [false, false, false] ["k"] (qi_range1 rfl N.range (qa_c (qe_op op_shl qe_int (qe_def DLoad (hr.mono (by first | decide | exact Nat.le_refl _)) (qa_c (qv 0) (qa_c qe_str qa_nil)))) qa_nil)) (fun _ _ _ => (qg_name (i := 3) ndAllWorths1 rfl (Or.inl rfl))) (fun _ _ _ => qts_nil) (fun _ _ _ => (qe_tup (qa_c qe_str (qa_c (qv 3) qa_nil))))))))))), _, (cs_seq (cs_asg (ce_op (opl_I fun _ _ => .int _) (ce_c (.int _)) (ce_op (opl_I0 fun _ _ => .int _) (ce_callP (ca_cons (ce_var 0) (ca_cons (ce_c (.str _)) ca_nil))) (ce_c (.int _)))) (cg_name 1))
      (cs_seq (cs_asg (ce_op opl_cat (ce_op opl_cat (ce_lrng2 (ca_cons (ce_op (opl_I0 fun _ _ => .int _) (ce_c (.int _)) (ce_var 1)) (ca_cons (ce_var 1) ca_nil))) (ce_comp (ci_rng1 (ca_cons (ce_c (.int _)) ca_nil)) (cgx_name 3) ct_yes (ce_tup (ca_cons (ce_c (.str _)) (ca_cons (ce_var 3) ca_nil))))) (ce_lst (ca_cons (ce_c (.str _)) (ca_cons (ce_c (.str _)) (ca_cons (ce_c (.str _)) ca_nil))))) (cg_name 2))
      (cs_seq (cs_asg (ce_op opl_cat (ce_var 2) (ce_comp (ci_rng1 (ca_cons (ce_op (opl_I fun _ _ => .int _) (ce_c (.int _)) (ce_callP (ca_cons (ce_var 0) (ca_cons (ce_c (.str _)) ca_nil)))) ca_nil)) (cgx_name 3) ct_yes (ce_tup (ca_cons (ce_c (.str _)) (ca_cons (ce_var 3) ca_nil))))) (cg_name 2))
      (cs_ret (ce_op opl_cat (ce_var 2) (ce_comp (ci_rng1 (ca_cons (ce_op (opl_I fun _ _ => .int _) (ce_c (.int _)) (ce_callP (ca_cons (ce_var 0) (ca_cons (ce_c (.str _)) ca_nil)))) ca_nil)) (cgx_name 3) ct_yes (ce_tup (ca_cons (ce_c (.str _)) (ca_cons (ce_var 3) ca_nil))))))))), fun ts Qt h => ?_⟩
  obtain ⟨bits, ms, rfl, hR, hb10, q⟩ := h
  have hb1 := hR.b
  have hn5 := hR.n
  obtain ⟨m1, h1⟩ := hR.kind (kind := "small") (by decide)
  obtain ⟨m4, h4⟩ := hR.kind (kind := "far") (by decide)
  obtain ⟨m5, h5⟩ := hR.kind (kind := "pair") (by decide)
  have w1 := hR.w m1 h1.mem
  have w4 := hR.w m4 h4.mem
  have w5 := hR.w m5 h5.mem
  have n1 := need_ge m1.1
  have n4 := need_ge m4.1
  have n5 := need_ge m5.1
  unfold allOf loadK at q
  rw [h1.mk, h4.mk, h5.mk, allKL_trees] at q
  have b1 := pow_le_1024 (a := bits - m1.2.1 - 1) (by omega)
  have b4 := pow_le_1024 (a := bits - m4.2.1) (by omega)
  have b5 := pow_le_1024 (a := bits - m5.2.1) (by omega)
  walk_at "v"
  refine ⟨bits, ms, "small", m1, rfl, by omega, h1, ?_⟩
  walk_at "v"
  refine ⟨⟨by omega, by omega, by decide⟩, ?_⟩
  rw [pow_nat]
  generalize 2 ^ (bits - m1.2.1 - 1).toNat = half at q b1 ⊢
  walk_at "v"
  refine lrng2_at (2 * half) (by omega) (by omega) (by omega) (by omega) ?_
  refine rng_at (by decide) (by decide) ?_
  refine ucomp_rng (m := 128) (by decide) (fun i acc M' => M' = [] ∧ acc = (List.range i).map (fun k : Nat => T.tup [.str "sign", .int (k : Int)])) ⟨rfl, rfl⟩ ?_ ?_
  · rintro i acc M' hi _ ⟨rfl, rfl⟩
    walk_at "v"
    rw [List.range_succ, List.map_append]
    rfl
  rintro acc M' ⟨rfl, rfl⟩
  walk_at "v"
  refine ⟨?_, ?_⟩
  · simp only [List.length_map, List.length_range]
    exact Nat.le_of_lt (Nat.lt_of_le_of_lt (show 2 * half + 128 ≤ 3000 by omega) (by decide))
  walk_at "v"
  refine ⟨?_, ?_⟩
  · simp only [List.length_map, List.length_range, List.length_append, List.length_cons, List.length_nil]
    exact Nat.le_of_lt (Nat.lt_of_le_of_lt (show 2 * half + 128 + (0 + 1 + 1 + 1) ≤ 3000 by omega) (by decide))
  walk_at "v"
  refine ⟨bits, ms, "far", m4, rfl, by omega, h4, ?_⟩
  walk_at "v"
  refine ⟨⟨by omega, by omega, by decide⟩, ?_⟩
  rw [pow_nat]
  generalize 2 ^ (bits - m4.2.1).toNat = nf at q b4 ⊢
  refine rng_at (by omega) (by omega) ?_
  rw [Int.toNat_natCast]
  refine ucomp_rng (m := nf) (Nat.le_of_lt (Nat.lt_of_le_of_lt b4 (by decide))) (fun i acc M' => M' = [] ∧ acc = (List.range i).map (fun k : Nat => T.tup [.str "far", .int (k : Int)])) ⟨rfl, rfl⟩ ?_ ?_
  · rintro i acc M' hi _ ⟨rfl, rfl⟩
    walk_at "v"
    rw [List.range_succ, List.map_append]
    rfl
  rintro acc M' ⟨rfl, rfl⟩
  walk_at "v"
  refine ⟨?_, ?_⟩
  · simp only [List.length_map, List.length_range, List.length_append, List.length_cons, List.length_nil]
    exact Nat.le_of_lt (Nat.lt_of_le_of_lt (show 2 * half + 128 + (0 + 1 + 1 + 1) + nf ≤ 6000 by omega) (by decide))
  walk_at "v"
  refine ⟨bits, ms, "pair", m5, rfl, by omega, h5, ?_⟩
  walk_at "v"
  refine ⟨⟨by omega, by omega, by decide⟩, ?_⟩
  rw [pow_nat]
  generalize 2 ^ (bits - m5.2.1).toNat = np at q b5 ⊢
  refine rng_at (by omega) (by omega) ?_
  rw [Int.toNat_natCast]
  refine ucomp_rng (m := np) (Nat.le_of_lt (Nat.lt_of_le_of_lt b5 (by decide))) (fun i acc M' => M' = [] ∧ acc = (List.range i).map (fun k : Nat => T.tup [.str "pair", .int (k : Int)])) ⟨rfl, rfl⟩ ?_ ?_
  · rintro i acc M' hi _ ⟨rfl, rfl⟩
    walk_at "v"
    rw [List.range_succ, List.map_append]
    rfl
  rintro acc M' ⟨rfl, rfl⟩
  walk_at "v"
  refine ⟨?_, ?_⟩
  · simp only [List.length_map, List.length_range, List.length_append, List.length_cons, List.length_nil]
    exact Nat.le_of_lt (Nat.lt_of_le_of_lt (show 2 * half + 128 + (0 + 1 + 1 + 1) + nf + np ≤ 9000 by omega) (by decide))
  walk_at "v"
  exact q

abbrev sAllRight : Stmt := top 26
theorem scAllRight : FnScope ["laying", "words", "worth", "word"] ["laying"] (defScope sAllRight) := ⟨rfl, rfl, rfl, by decide +kernel, rfl, by decide +kernel, by decide +kernel⟩
def gAllRight : List T → (T → Prop) → Prop := fun ts Q => ∃ (bits : Int) (ms : List Mk3), ts = [layT bits ms] ∧ Right bits ms ∧ bits ≤ 10 ∧ Q (.bl true)
theorem allOf_len {bits : Int} {ms : List Mk3} (r : Right bits ms) (h : bits ≤ 10) : (allOf bits ms).length ≤ 9000 := by
  have hb := r.b
  have key : ∀ kind, kind ∈ fiveK → 2 ^ loadK bits ms kind ≤ 1024 := fun kind hk => by
    obtain ⟨m, hm⟩ := r.kind hk
    have w := r.w m hm.mem
    unfold loadK
    rw [hm.mk]
    exact pow_le_1024 (by omega)
  have k1 : 2 ^ (bits - (markK ms "small").2.1 - 1).toNat ≤ 1024 := by
    obtain ⟨m, hm⟩ := r.kind (kind := "small") (by decide)
    have w := r.w m hm.mem
    rw [hm.mk]
    exact pow_le_1024 (by omega)
  have k2 := key "far" (by decide)
  have k3 := key "pair" (by decide)
  unfold allOf allKL rgK
  simp only [List.length_append, List.length_map, List.length_range]
  omega
def kvW (bits : Int) (ms : List Mk3) (l : List KL) : List (Key × U) := l.map fun x => ((.inl (wdK bits ms x) : Key), U.p (tOf x))
theorem depT_tOf (x : KL) : depT 2 (tOf x) := by
  unfold tOf
  split
  · trivial
  · split
    · trivial
    · refine ⟨by show 2 ≤ 100000; decide, fun y hy => ?_⟩
      simp only [List.mem_cons, List.not_mem_nil, or_false] at hy
      rcases hy with rfl | rfl <;> trivial
theorem nodup_take {α : Type} : ∀ {l : List α} {i : Nat} {x : α}, l.Nodup → l[i]? = some x → x ∉ l.take i
  | [], _, _, _, h => by simp at h
  | y :: l, 0, x, hn, h => by simp
  | y :: l, i + 1, x, hn, h => fun z => by
    obtain ⟨n1, n2⟩ := List.nodup_cons.mp hn
    have h : l[i]? = some x := by simpa using h
    rcases List.mem_cons.mp (show x ∈ y :: l.take i from z) with e | z
    · exact n1 (by rw [← e]; exact List.mem_of_getElem? h)
    · exact nodup_take n2 h z
theorem ok_all_rightU {f : Addr} {fd : FuncData} (F : Fun K "_law_all_right" "_law_all_right" sAllRight f fd) (N : Nms mg) (DAllWorths : Def P w K mg base "_law_all_worths" 3 ["laying"] (spP gAllWorths)) (DWordOf : Def P w K mg base "word_of" 3 ["laying", "worth"] (spP gWordOf)) (DWorthOf : Def P w K mg base "worth_of" 3 ["laying", "word"] (spP gWorthOf)) (DAlike : Def P w K mg base "_law_alike" 4 ["found", "due"] (spP (gAlike 3))) : FnOk P w K mg base CX0 5 f fd ["laying"] (spP gAllRight) := by
  refine F.zP scAllRight (fun ts Qt h => ?_) (fun cdv A outer s H E hr => ?_)
  · obtain ⟨_, _, rfl, _⟩ := h
    rfl
  refine ⟨_, (qss_cons (qs_set (i := 1) scAllRight.nd rfl (Or.inl rfl) qe_dnew)
    (qss_cons (qs_for PassesOwn.never rfl (qi_listK (K := K) rfl (qe_def DAllWorths (hr.mono (by first | decide | exact Nat.le_refl _)) (qa_c (qv 0) qa_nil))) (qg_name (i := 2) scAllRight.nd rfl (Or.inl rfl))
      (qss_cons (qs_set (i := 3) scAllRight.nd rfl (Or.inl rfl) (qe_def DWordOf (hr.mono (by first | decide | exact Nat.le_refl _)) (qa_c (qv 0) (qa_c (qv 2) qa_nil))))
      (qss_cons (qs_if (qw_pt (qw_or (qt_din (hu_of hr) (qv 3) (qv 1)) (qw_or (qt_cmpR op_lt (qv 3) qe_int (nomark _)) (qw_or (qt_cmpR op_ge (qv 3) (qe_op op_shl qe_int (qe_ix (ix_tupK (K := K) rfl) (qv 0) qe_int (fun _ _ => rfl))) (nomark _)) (qw_or1 (qt_not (qt_val (qe_def DAlike (hr.mono (by first | decide | exact Nat.le_refl _)) (qa_c (qe_lst (qa_c (qe_def DWorthOf (hr.mono (by first | decide | exact Nat.le_refl _)) (qa_c (qv 0) (qa_c (qv 3) qa_nil))) qa_nil)) (qa_c (qe_lst (qa_c (qv 2) qa_nil)) qa_nil))))))))))
        (qss_one (qs_ret qe_bl))
        qss_nil)
      (qss_one (qs_dput (hu_of hr) (qv 1) (qv 3) (qv 2))))))
    (qss_cons (qs_for PassesOwn.never rfl (qi_range1 rfl N.range (qa_c (qe_op op_shl qe_int (qe_ix (ix_tupK (K := K) rfl) (qv 0) qe_int (fun _ _ => rfl))) qa_nil)) (qg_name (i := 3) scAllRight.nd rfl (Or.inl rfl))
      (qss_one (qs_if (qt_cmpR op_ne (qe_cmpR op_isN (qe_def DWorthOf (hr.mono (by first | decide | exact Nat.le_refl _)) (qa_c (qv 0) (qa_c (qv 3) qa_nil))) qe_non (nomark _)) (qe_dnotin (hu_of hr) (qv 3) (qv 1)) (nomark _))
        (qss_one (qs_ret qe_bl))
        qss_nil)))
    (qss_one (qs_ret qe_bl))))), _, (cs_seq (cs_asg ce_dnew (cg_name 1))
      (cs_seq (cs_for (ci_list (ce_callP (ca_cons (ce_var 0) ca_nil))) (cg_name 2)
      (cs_seq (cs_asg (ce_callP (ca_cons (ce_var 0) (ca_cons (ce_var 2) ca_nil))) (cg_name 3))
      (cs_seq (cs_if (ct_or (ct_b (ce_din (ce_var 3) (ce_var 1))) (ct_or (ct_test (ce_op (opl_I0 fun _ _ => .bl _) (ce_var 3) (ce_c (.int _)))) (ct_or (ct_test (ce_op (opl_I0 fun _ _ => .bl _) (ce_var 3) (ce_op (opl_I fun _ _ => .int _) (ce_c (.int _)) (ce_ixT (ce_var 0) (ce_c (.int _)))))) (ct_not (ct_b (ce_callP (ca_cons (ce_lst (ca_cons (ce_callP (ca_cons (ce_var 0) (ca_cons (ce_var 3) ca_nil))) ca_nil)) (ca_cons (ce_lst (ca_cons (ce_var 2) ca_nil)) ca_nil))))))))
      (cs_ret (ce_c (.bl _)))
      cs_next)
      (cs_dput (ce_var 1) (ce_var 3) (ce_var 2)))))
      (cs_seq (cs_for (ci_rng1 (ca_cons (ce_op (opl_I fun _ _ => .int _) (ce_c (.int _)) (ce_ixT (ce_var 0) (ce_c (.int _)))) ca_nil)) (cg_name 3)
      (cs_if (ct_test (ce_op opl_ne (ce_isN (ce_callP (ca_cons (ce_var 0) (ca_cons (ce_var 3) ca_nil)))) (ce_dnotin (ce_var 3) (ce_var 1))))
      (cs_ret (ce_c (.bl _)))
      cs_next))
      (cs_ret (ce_c (.bl _)))))), fun ts Qt h => ?_⟩
  obtain ⟨bits, ms, rfl, hR, hb10, q⟩ := h
  have hb1 := hR.b
  have hn5 := hR.n
  have hlen := allOf_len hR hb10
  have hpb := pow_le_1024 hb10
  walk_at "v"
  refine ⟨bits, ms, rfl, hR, hb10, ?_⟩
  walk_at "v"
  refine ufor_list (fun i ρ M' => ∃ x2 x3, ρ = [some (.p (layT bits ms)), some (.m 0), x2, x3] ∧ M' = [.dK (kvW bits ms ((allOf bits ms).take i))]) ⟨_, _, rfl, rfl⟩ ?_ ?_
  · rintro i t ρ M' ht ⟨x2, x3, rfl, rfl⟩
    obtain ⟨x, hx, rfl⟩ := get_map ht
    have hxm := List.mem_of_getElem? hx
    have hv := mem_allOf' hR hxm
    have hth := hv.there hR
    have hmw := hR.w _ hv.k.mem
    have hnd := need_ge (markK ms x.1).1
    walk_at "v"
    refine ⟨bits, ms, tOf x, x.1, x.2, markK ms x.1, rfl, by omega, hv.worth, hv.k, by omega, by omega, by omega, ?_, ?_⟩
    · by_cases hs : x.1 = "small"
      · exact .inl ⟨x.2, by unfold tOf; rw [if_pos hs]⟩
      · exact .inr (hv.o hs)
    walk_at "v"
    have hany : ((allOf bits ms).take i).any (fun y => decide (wdK bits ms y = wordOf bits (markK ms x.1) x.2)) = false := by
      cases e : ((allOf bits ms).take i).any (fun y => decide (wdK bits ms y = wordOf bits (markK ms x.1) x.2)) with
      | false => rfl
      | true =>
        obtain ⟨y, hy, ey⟩ := List.any_eq_true.mp e
        have ey : wdK bits ms y = wordOf bits (markK ms x.1) x.2 := of_decide_eq_true ey
        have hyv := mem_allOf' hR (List.mem_of_mem_take hy)
        have hyt := (hyv.there hR).2.2
        unfold wdK at ey
        rw [ey, hth.2.2] at hyt
        have := tOf_inj hv hyv hyt
        subst this
        exact absurd hy (nodup_take nd_allKL hx)
    refine dinI_at rfl ?_
    unfold kvW
    rw [valW, hany]
    walk_at "v"
    rw [if_neg (show ¬ wordOf bits (markK ms x.1) x.2 < 0 by omega)]
    walk_at "v"
    refine ⟨⟨by omega, by omega, by decide⟩, ?_⟩
    rw [Int.one_mul]
    rw [if_neg (show ¬ 2 ^ bits.toNat ≤ wordOf bits (markK ms x.1) x.2 by omega)]
    refine ⟨bits, ms, _, rfl, hR, hth.1, ?_⟩
    rw [hth.2.2]
    refine ⟨_, rfl, ⟨by show 1 ≤ 100000; decide, fun y hy => ?_⟩, ?_⟩
    · rw [List.mem_singleton.mp hy]; exact depT_tOf x
    walk_at "v"
    refine dputI_at rfl ?_ ?_
    · rw [List.length_map, List.length_take]
      exact Nat.lt_of_le_of_lt (Nat.le_trans (Nat.min_le_right _ _) hlen) (by decide)
    refine ⟨_, _, rfl, ?_⟩
    rw [putW hany, take_succ_get hx, List.map_append]
    rfl
  rintro ρ M' ⟨x2, x3, rfl, rfl⟩
  rw [List.length_map, List.take_length]
  walk_at "v"
  refine ⟨⟨by omega, by omega, by decide⟩, ?_⟩
  rw [pow_nat]
  generalize hN : 2 ^ bits.toNat = nb at hpb ⊢
  refine rng_at (by omega) (by omega) ?_
  rw [Int.toNat_natCast]
  refine ufor_rng (fun i ρ M' => ∃ x2 x3, ρ = [some (.p (layT bits ms)), some (.m 0), x2, x3] ∧ M' = [.dK (kvW bits ms (allOf bits ms))]) ⟨_, _, rfl, rfl⟩ ?_ ?_
  · rintro i ρ M' hi ⟨x2, x3, rfl, rfl⟩
    have hi2 : (i : Int) < 2 ^ bits.toNat := by rw [← hN] at hi; exact_mod_cast hi
    walk_at "v"
    refine ⟨bits, ms, _, rfl, hR, by omega, ?_⟩
    walk_at "v"
    refine dinI_at rfl ?_
    unfold kvW
    rw [valW]
    rcases Vld.back hR (word := (i : Int)) (by omega) hi2 with e | ⟨x, m, hv, e, ew⟩
    · have hany : ((allOf bits ms).any fun y => decide (wdK bits ms y = i)) = false := by
        cases ea : ((allOf bits ms).any fun y => decide (wdK bits ms y = i)) with
        | false => rfl
        | true =>
          obtain ⟨y, hy, ey⟩ := List.any_eq_true.mp ea
          have ey : wdK bits ms y = i := of_decide_eq_true ey
          have := ((mem_allOf' hR hy).there hR).2.2
          unfold wdK at ey
          rw [ey, e] at this
          exact absurd this.symm (tOf_non y)
      rw [e, hany]
      walk_at "v"
      exact ⟨_, _, rfl⟩
    · have hany : ((allOf bits ms).any fun y => decide (wdK bits ms y = i)) = true := by
        refine List.any_eq_true.mpr ⟨x, (mem_allOf hR).mpr ⟨m, hv⟩, decide_eq_true ?_⟩
        unfold wdK
        rw [hv.k.mk, ew]
      have hn := tOf_non x
      rw [e, hany]
      generalize tOf x = t at hn
      cases t <;> first | exact absurd rfl hn | (walk_at "v"; exact ⟨_, _, rfl⟩)
  rintro ρ M' ⟨x2, x3, rfl, rfl⟩
  walk_at "v"
  exact q

abbrev sSomeRight : Stmt := top 27
theorem scSomeRight : FnScope ["bag", "laying", "k", "word", "worth", "n"] ["bag", "laying"] (defScope sSomeRight) := ⟨rfl, rfl, rfl, by decide +kernel, rfl, by decide +kernel, by decide +kernel⟩
def gSomeRight : List U → MM → UK → Prop := fun us M Q => ∃ (k : Nat) (o : MO) (bits : Int) (ms : List Mk3), us = [.m k, .p (layT bits ms)] ∧ M[k]? = some o ∧ BagO o ∧ Right bits ms ∧ ∀ (o' : MO), BagO o' → Q (.p (.bl true)) (M.set k o')
theorem nkE {a b : Str} (e : a = b) (n : a ≠ b) : False := n e
theorem wordSpec {bits : Int} {ms : List Mk3} (r : Right bits ms) {x : KL} {m : Mk3} (h : Vld bits ms x m) {Q : T → Prop} (q : Q (.int (wordOf bits m x.2))) : gWordOf [layT bits ms, tOf x] Q := by
  have hb1 := r.b
  have hn5 := r.n
  have hmw := r.w _ h.k.mem
  have hnd := need_ge m.1
  refine ⟨bits, ms, tOf x, x.1, x.2, m, rfl, by omega, h.worth, h.k, by omega, by omega, by omega, ?_, q⟩
  by_cases hs : x.1 = "small"
  · exact .inl ⟨x.2, by unfold tOf; rw [if_pos hs]⟩
  · exact .inr (h.o hs)
theorem someWord_at {M : MM} {k : Nat} {o : MO} {L : List MO} {bits : Int} {ms : List Mk3} {Q : UK} (hk : k < M.length) (B : BagO o) (hR : Right bits ms) (q : ∀ (word : Int) (o' : MO), BagO o' → 0 ≤ word → word < 2 ^ bits.toNat → Q (.p (.int word)) (MB M k o' L)) : gSomeWord [.m k, .p (layT bits ms)] (MB M k o L) Q :=
  ⟨k, o, bits, ms, rfl, MB_bag hk, B, hR, fun x o' B' x0 x1 => by rw [MB_setbag hk]; exact q x o' B' x0 x1⟩
theorem number_at' {M : MM} {k : Nat} {o : MO} {L : List MO} {bits : Int} {ms : List Mk3} {Q : UK} (hk : k < M.length) (B : BagO o) (hR : Right bits ms) (q : ∀ (n : Int) (o' : MO), BagO o' → Bt 300 n → Q (.p (.int n)) (MB M k o' L)) : gNumber [.m k, .p (layT bits ms)] (MB M k o L) Q :=
  ⟨k, o, bits, ms, rfl, MB_bag hk, B, hR, fun x o' B' x0 => by rw [MB_setbag hk]; exact q x o' B' x0⟩
theorem ok_some_rightU {f : Addr} {fd : FuncData} (F : Fun K "_law_some_right" "_law_some_right" sSomeRight f fd) (N : Nms mg) (DDraw : Def P w K mg base "_law_draw" 1 ["bag", "many"] (spU gDraw)) (DSomeWord : Def P w K mg base "_law_some_word" 2 ["bag", "laying"] (spU gSomeWord)) (DNumber : Def P w K mg base "_law_number" 3 ["bag", "laying"] (spU gNumber)) (DWordOf : Def P w K mg base "word_of" 3 ["laying", "worth"] (spP gWordOf)) (DWorthOf : Def P w K mg base "worth_of" 3 ["laying", "word"] (spP gWorthOf)) (DIsSmall : Def P w K mg base "is_small" 3 ["laying", "n"] (spP gIsSmall)) (DAlike : Def P w K mg base "_law_alike" 4 ["found", "due"] (spP (gAlike 3))) : FnOk P w K mg base CX0 5 f fd ["bag", "laying"] (spU gSomeRight) := by
  refine F.zV scSomeRight (fun us M Qu h => ?_) (fun cdv A outer s H E hr => ?_)
  · obtain ⟨_, _, _, _, rfl, _⟩ := h
    rfl
  refine ⟨_, (qss_cons (qs_for PassesOwn.never rfl (qi_range1 rfl N.range (qa_c (qe_def DDraw (hr.mono (by first | decide | exact Nat.le_refl _)) (qa_c (qv 0) (qa_c qe_int qa_nil))) qa_nil)) (qg_name (i := 2) scSomeRight.nd rfl (Or.inl rfl))
      (qss_cons (qs_set (i := 3) scSomeRight.nd rfl (Or.inl rfl) (qe_def DSomeWord (hr.mono (by first | decide | exact Nat.le_refl _)) (qa_c (qv 0) (qa_c (qv 1) qa_nil))))
      (qss_cons (qs_set (i := 4) scSomeRight.nd rfl (Or.inl rfl) (qe_def DWorthOf (hr.mono (by first | decide | exact Nat.le_refl _)) (qa_c (qv 1) (qa_c (qv 3) qa_nil))))
      (qss_cons (qs_if (qw_pt (qw_and (qt_cmpR op_notN (qv 4) qe_non (nomark _)) (qw_and1 (qt_cmpR op_ne (qe_def DWordOf (hr.mono (by first | decide | exact Nat.le_refl _)) (qa_c (qv 1) (qa_c (qv 4) qa_nil))) (qv 3) (nomark _)))))
        (qss_one (qs_ret qe_bl))
        qss_nil)
      (qss_cons (qs_set (i := 5) scSomeRight.nd rfl (Or.inl rfl) (qe_def DNumber (hr.mono (by first | decide | exact Nat.le_refl _)) (qa_c (qv 0) (qa_c (qv 1) qa_nil))))
      (qss_one (qs_if (qw_pt (qw_and (qt_val (qe_def DIsSmall (hr.mono (by first | decide | exact Nat.le_refl _)) (qa_c (qv 1) (qa_c (qv 5) qa_nil)))) (qw_and1 (qt_not (qt_val (qe_def DAlike (hr.mono (by first | decide | exact Nat.le_refl _)) (qa_c (qe_def DWorthOf (hr.mono (by first | decide | exact Nat.le_refl _)) (qa_c (qv 1) (qa_c (qe_def DWordOf (hr.mono (by first | decide | exact Nat.le_refl _)) (qa_c (qv 1) (qa_c (qv 5) qa_nil))) qa_nil))) (qa_c (qv 5) qa_nil))))))))
        (qss_one (qs_ret qe_bl))
        qss_nil)))))))
    (qss_one (qs_ret qe_bl))), _, (cs_seq (cs_for (ci_rng1 (ca_cons (ce_callU (ca_cons (ce_var 0) (ca_cons (ce_c (.int _)) ca_nil))) ca_nil)) (cg_name 2)
      (cs_seq (cs_asg (ce_callU (ca_cons (ce_var 0) (ca_cons (ce_var 1) ca_nil))) (cg_name 3))
      (cs_seq (cs_asg (ce_callP (ca_cons (ce_var 1) (ca_cons (ce_var 3) ca_nil))) (cg_name 4))
      (cs_seq (cs_if (ct_and (ct_test (ce_notN (ce_var 4))) (ct_test (ce_op opl_ne (ce_callP (ca_cons (ce_var 1) (ca_cons (ce_var 4) ca_nil))) (ce_var 3))))
      (cs_ret (ce_c (.bl _)))
      cs_next)
      (cs_seq (cs_asg (ce_callU (ca_cons (ce_var 0) (ca_cons (ce_var 1) ca_nil))) (cg_name 5))
      (cs_if (ct_and (ct_b (ce_callP (ca_cons (ce_var 1) (ca_cons (ce_var 5) ca_nil)))) (ct_not (ct_b (ce_callP (ca_cons (ce_callP (ca_cons (ce_var 1) (ca_cons (ce_callP (ca_cons (ce_var 1) (ca_cons (ce_var 5) ca_nil))) ca_nil))) (ca_cons (ce_var 5) ca_nil))))))
      (cs_ret (ce_c (.bl _)))
      cs_next))))))
      (cs_ret (ce_c (.bl _)))), fun us M M1 Qu e1 h => ?_⟩
  obtain ⟨k, o, bits, ms, rfl, em, hB, hR, post⟩ := h
  obtain ⟨hkl, eM⟩ := MB_start em
  have hb1 := hR.b
  have hn5 := hR.n
  obtain ⟨m, hm⟩ := hR.kind (kind := "small") (by decide)
  have hmw := hR.w m hm.mem
  have hnd := need_ge m.1
  rw [e1.trans eM]
  walk_at "v"
  refine draw_at hkl hB (by decide) (by decide) fun d o1 d0 d1 B1 => ?_
  walk_at "v"
  refine rng_at (by omega) (by omega) ?_
  refine ufor_rng (fun i ρ M' => ∃ x2 x3 x4 x5 o, ρ = [some (.m k), some (.p (layT bits ms)), x2, x3, x4, x5] ∧ BagO o ∧ M' = MB M k o []) ⟨_, _, _, _, _, rfl, B1, rfl⟩ ?_ ?_
  · rintro i ρ M' hi ⟨x2, x3, x4, x5, o2, rfl, B2, rfl⟩
    walk_at "v"
    refine someWord_at hkl B2 hR fun word o3 B3 w0 w1 => ?_
    walk_at "v"
    refine ⟨bits, ms, word, rfl, hR, w0, ?_⟩
    walk_at "v"
    refine ite2 (fun hh => ?_) (fun hh => ?_)
    · rcases Vld.back hR w0 w1 with e | ⟨x, m', hv, e, ew⟩
      · rw [e] at hh; simp at hh
      · rw [e]
        refine wordSpec hR hv ?_
        rw [ew]
        walk_at "v"
        refine number_at' hkl B3 hR fun n o4 B4 hbt => ?_
        walk_at "v"
        refine ⟨bits, ms, n, m, rfl, by omega, hm, by omega, by omega, ?_⟩
        walk_at "v"
        cases hs : smallB (bits - m.2.1) n with
        | false =>
          walk_at "v"
          exact ⟨_, _, _, _, _, rfl, B4, rfl⟩
        | true =>
          have hs2 : -(2 ^ (bits - m.2.1 - 1).toNat) ≤ n ∧ n < 2 ^ (bits - m.2.1 - 1).toNat := of_decide_eq_true hs
          have hv : Vld bits ms ("small", n) m := ⟨hm, fun _ => hs2, fun z => absurd rfl z, fun z => (nkE z (by dsimp only; decide)).elim, fun z => (nkE z (by dsimp only; decide)).elim⟩
          have hth := hv.there hR
          walk_at "v"
          refine wordSpec (x := ("small", n)) hR hv ?_
          walk_at "v"
          refine ⟨bits, ms, _, rfl, hR, hth.1, ?_⟩
          rw [hth.2.2]
          refine ⟨.int n, rfl, trivial, ?_⟩
          walk_at "v"
          exact ⟨_, _, _, _, _, rfl, B4, rfl⟩
    · walk_at "v"
      refine number_at' hkl B3 hR fun n o4 B4 hbt => ?_
      walk_at "v"
      refine ⟨bits, ms, n, m, rfl, by omega, hm, by omega, by omega, ?_⟩
      walk_at "v"
      cases hs : smallB (bits - m.2.1) n with
      | false =>
        walk_at "v"
        exact ⟨_, _, _, _, _, rfl, B4, rfl⟩
      | true =>
        have hs2 : -(2 ^ (bits - m.2.1 - 1).toNat) ≤ n ∧ n < 2 ^ (bits - m.2.1 - 1).toNat := of_decide_eq_true hs
        have hv : Vld bits ms ("small", n) m := ⟨hm, fun _ => hs2, fun z => absurd rfl z, fun z => (nkE z (by dsimp only; decide)).elim, fun z => (nkE z (by dsimp only; decide)).elim⟩
        have hth := hv.there hR
        walk_at "v"
        refine wordSpec (x := ("small", n)) hR hv ?_
        walk_at "v"
        refine ⟨bits, ms, _, rfl, hR, hth.1, ?_⟩
        rw [hth.2.2]
        refine ⟨.int n, rfl, trivial, ?_⟩
        walk_at "v"
        exact ⟨_, _, _, _, _, rfl, B4, rfl⟩
  · rintro ρ M' ⟨x2, x3, x4, x5, o2, rfl, B2, rfl⟩
    walk_at "v"
    refine ⟨MB_trim B2.pur, ?_⟩
    rw [MB_take]
    exact post o2 B2

def spLaw (K : PySem.W.Frag) : Sp := fun vs H Q _ => ∃ (a : Addr) (ns : List Int), vs = [.ref a] ∧ SqL K H a (ns.map V.int) ∧ ns.length ≤ 63 ∧ ∀ H', Q (.bl true) H'
/-- the law itself: its bag is drawn at the heap, the rest is read over trees -/
theorem law_okU {st : Stmt} {f : Addr} {fd : FuncData} {N : List Str} {k : Nat} (F : Fun K "law" "law" st f fd) (S : FnScope N ["script"] (defScope st)) (hN : 2 ≤ N.length)
    (hbody : ∀ (cdv : Value) (A : Around) (outer : List Env) (s : Shared) (H : Hp) (E : XK), Room k (A.deeper (envOfC "law" (defScope st) s.heap.objs.size f cdv)) →
      ∃ tR, QSs (cxOf CX0 P w K mg base N "law" (defScope st) f cdv A outer s H E).nox (defBody st) (tSeq (tAsg (tCall (spBag K) [] E0 (tCons (tVar 0) tNil)) (gName 1)) tR) ∧ ∃ uR, ZS tR uR ∧ ∀ o, BagO o → uR { nx := fun _ _ => False, rt := fun z _ => z = .p (.bl true) } (none :: some (.m 0) :: List.replicate (N.length - 2) none) [o]) : FnOk P w K mg base CX0 (k + 1) f fd ["script"] (spLaw K) := by
  refine F.okQ S (fun vs H Q E h => ?_) (fun cdv A outer s H vs Q E hr h => ?_)
  · obtain ⟨_, _, rfl, _⟩ := h
    rfl
  · obtain ⟨a, ns, rfl, hS, hlen, k⟩ := h
    obtain ⟨tR, hT, uR, hU, hq⟩ := hbody cdv A outer s H E hr
    refine ⟨_, hT, ?_⟩
    have hN2 : L2.start N [.ref a] = some (.ref a) :: none :: List.replicate (N.length - 2) none := by
      unfold L2.start
      obtain ⟨m, hm⟩ : ∃ m, N.length = m + 2 := ⟨N.length - 2, by omega⟩
      rw [hm]
      rfl
    rw [hN2]
    simp only [tSeq, tAsg, tCall, tCons, tNil, tVar, gName, List.getElem?_cons_zero, Option.some.injEq, exists_eq_left', List.append_nil, List.set_cons_zero, List.set_cons_succ]
    refine ⟨a, ns, rfl, hS, hlen, fun b H1 hb s1 B1 => ?_⟩
    obtain ⟨c, ns', i, a', st', n, hbb, hcc, r⟩ := id B1.ex
    have ncb : c ≠ b := bag_ne hbb hcc
    obtain ⟨o, hbo, ro, _⟩ := bag_back (A := fun _ => False) (ι := [b]) B1 ⟨_, hbb⟩ (fun z => z.elim id fun z => ncb (by simpa using z))
    have w1 : L2.Wd (fun _ => False) [b] H1 [o] := ⟨by simp, rfl, fun x hx => hx.elim, fun x _ z => z, fun k a2 o2 e1 e2 => by
      match k, e1, e2 with
      | 0, e1, e2 => cases e1; cases e2; exact ro
      | k + 1, e1, _ => simp at e1⟩
    have env : EnvR (fun _ => False) [b] H1 (some (.ref a) :: some (.ref b) :: List.replicate (N.length - 2) none) (none :: some (.m 0) :: List.replicate (N.length - 2) none) := by
      refine .cons (fun u e => by cases e) (.cons (fun u e => by cases e; exact ⟨_, rfl, .m rfl⟩) ?_)
      generalize N.length - 2 = m
      induction m with
      | zero => exact .nil
      | succ m ih => exact .cons (fun u e => by cases e) ih
    refine hU.h (fun _ => False) [b] _ H1 _ [o] _ { nx := fun _ _ => False, rt := fun z _ => z = .p (.bl true) } w1 env ⟨fun _ _ _ _ _ _ _ _ q => q.elim, fun ι v H2 u M _ _ ru q => ?_, fun _ _ _ _ _ _ _ _ q => q.elim, fun _ _ _ _ _ _ _ _ q => q.elim⟩ (hq o hbo)
    have q : u = .p (.bl true) := q
    subst q
    cases ru with
    | p r => cases r; exact k H2
theorem drawL {o : MO} {L : List MO} {many : Int} {Q : UK} (B : BagO o) (h0 : 0 < many) (h1 : many.natAbs.log2 < 9000) (q : ∀ (found : Int) (o' : MO), 0 ≤ found → found < many → BagO o' → Q (.p (.int found)) (o' :: L)) : gDraw [.m 0, .p (.int many)] (o :: L) Q :=
  ⟨0, o, many, rfl, rfl, B, h0, h1, fun f o' f0 f1 B' => q f o' f0 f1 B'⟩
theorem layL {o : MO} {L : List MO} {Q : UK} (B : BagO o) (q : ∀ (o' : MO) (bits : Int) (ms : List Mk3), BagO o' → Right bits ms → Q (.p (layT bits ms)) (o' :: L)) : gLaying [.m 0] (o :: L) Q := ⟨0, o, rfl, rfl, B, fun o' bits ms B' hR => q o' bits ms B' hR⟩

abbrev sLaw : Stmt := top 28
theorem scLaw : FnScope ["script", "bag", "turn", "laying", "half", "edges"] ["script"] (defScope sLaw) := ⟨rfl, rfl, rfl, by decide +kernel, rfl, by decide +kernel, by decide +kernel⟩
theorem ndLaw1 : (["script", "bag", "turn", "laying", "half", "edges", "n"] : List Str).Nodup := by decide +kernel
theorem half_ge {s : Int} (h : 2 ≤ s) : (2 : Int) ≤ 2 ^ (s - 1).toNat := by
  have : (2 : Nat) ^ 1 ≤ 2 ^ (s - 1).toNat := Nat.pow_le_pow_right (by decide) (by omega)
  exact_mod_cast this
theorem someRL {o : MO} {bits : Int} {ms : List Mk3} {Q : UK} (B : BagO o) (hR : Right bits ms) (q : ∀ (o' : MO), BagO o' → Q (.p (.bl true)) [o']) : gSomeRight [.m 0, .p (layT bits ms)] [o] Q := ⟨0, o, bits, ms, rfl, rfl, B, hR, fun o' B' => q o' B'⟩
theorem ok_lawU {f : Addr} {fd : FuncData} (F : Fun K "law" "law" sLaw f fd) (N : Nms mg) (DBag : Def P w K mg base "_law_bag" 1 ["script"] (spBag K)) (DDraw : Def P w K mg base "_law_draw" 1 ["bag", "many"] (spU gDraw)) (DLaying : Def P w K mg base "_law_laying" 3 ["bag"] (spU gLaying)) (DLoadBits : Def P w K mg base "load_bits" 2 ["laying", "kind"] (spP gLoad)) (DIsSmall : Def P w K mg base "is_small" 3 ["laying", "n"] (spP gIsSmall)) (DSomeRight : Def P w K mg base "_law_some_right" 5 ["bag", "laying"] (spU gSomeRight)) (DAllRight : Def P w K mg base "_law_all_right" 5 ["laying"] (spP gAllRight)) : FnOk P w K mg base CX0 6 f fd ["script"] (spLaw K) := by
  refine law_okU F scLaw (by decide) (fun cdv A outer s H E hr => ?_)
  refine ⟨_, (qss_cons (qs_set (i := 1) scLaw.nd rfl (Or.inl rfl) (qe_def DBag (hr.mono (by first | decide | exact Nat.le_refl _)) (qa_c (qv 0) qa_nil)))
    (qss_cons (qs_for PassesOwn.never rfl (qi_range1 rfl N.range (qa_c (qe_op op_add qe_int (qe_def DDraw (hr.mono (by first | decide | exact Nat.le_refl _)) (qa_c (qv 1) (qa_c qe_int qa_nil)))) qa_nil)) (qg_name (i := 2) scLaw.nd rfl (Or.inl rfl))
      (qss_cons (qs_set (i := 3) scLaw.nd rfl (Or.inr rfl) (qe_def DLaying (hr.mono (by first | decide | exact Nat.le_refl _)) (qa_c (qv 1) qa_nil)))
      (qss_cons (qs_set (i := 4) scLaw.nd rfl (Or.inl rfl) (qe_op op_shl qe_int (qe_op op_sub (qe_def DLoadBits (hr.mono (by first | decide | exact Nat.le_refl _)) (qa_c (qv 3) (qa_c qe_str qa_nil))) qe_int)))
      (qss_cons (qs_lc (i := 5) [false, false, false, true, false, false] ["n"] scLaw.nd rfl rfl (qi_listK (K := K) rfl (qe_lst (qa_c (qe_op op_sub (qv 4) qe_int) (qa_c (qv 4) (qa_c (qe_op op_sub qe_int (qv 4)) (qa_c (qe_op op_sub (qe_un un_neg qe_int) (qv 4)) (qa_c qe_int (qa_c (qe_un un_neg qe_int) qa_nil)))))))) (fun _ _ _ => (qg_name (i := 6) ndLaw1 rfl (Or.inl rfl))) (fun _ _ _ => qts_nil) (fun _ _ _ => (qe_def DIsSmall (hr.mono (by first | decide | exact Nat.le_refl _)) (qa_c (qv 3) (qa_c (qv 6) qa_nil)))))
      (qss_cons (qs_if (qw_pt (qw_or (qt_cmpR (op_neLK (K := K) rfl hr.units) (qv 5) (qe_lst (qa_c qe_bl (qa_c qe_bl (qa_c qe_bl (qa_c qe_bl (qa_c qe_bl (qa_c qe_bl qa_nil))))))) (nomark _)) (qw_or1 (qt_not (qt_val (qe_def DSomeRight (hr.mono (by first | decide | exact Nat.le_refl _)) (qa_c (qv 1) (qa_c (qv 3) qa_nil))))))))
        (qss_one (qs_ret qe_bl))
        qss_nil)
      (qss_one (qs_if (qw_pt (qw_and (qt_cmpR op_lt (qe_ix (ix_tupK (K := K) rfl) (qv 3) qe_int (fun _ _ => rfl)) qe_int (nomark _)) (qw_and1 (qt_not (qt_val (qe_def DAllRight (hr.mono (by first | decide | exact Nat.le_refl _)) (qa_c (qv 3) qa_nil)))))))
        (qss_one (qs_ret qe_bl))
        qss_nil)))))))
    (qss_one (qs_ret qe_bl)))), _, (cs_seq (cs_for (ci_rng1 (ca_cons (ce_op (opl_I0 fun _ _ => .int _) (ce_c (.int _)) (ce_callU (ca_cons (ce_var 1) (ca_cons (ce_c (.int _)) ca_nil)))) ca_nil)) (cg_name 2)
      (cs_seq (cs_asg (ce_callU (ca_cons (ce_var 1) ca_nil)) (cg_name 3))
      (cs_seq (cs_asg (ce_op (opl_I fun _ _ => .int _) (ce_c (.int _)) (ce_op (opl_I0 fun _ _ => .int _) (ce_callP (ca_cons (ce_var 3) (ca_cons (ce_c (.str _)) ca_nil))) (ce_c (.int _)))) (cg_name 4))
      (cs_seq (cs_asg (ce_comp (ci_list (ce_lst (ca_cons (ce_op (opl_I0 fun _ _ => .int _) (ce_var 4) (ce_c (.int _))) (ca_cons (ce_var 4) (ca_cons (ce_op (opl_I0 fun _ _ => .int _) (ce_c (.int _)) (ce_var 4)) (ca_cons (ce_op (opl_I0 fun _ _ => .int _) (ce_neg (ce_c (.int _))) (ce_var 4)) (ca_cons (ce_c (.int _)) (ca_cons (ce_neg (ce_c (.int _))) ca_nil)))))))) (cgx_name 6) ct_yes (ce_callP (ca_cons (ce_var 3) (ca_cons (ce_var 6) ca_nil)))) (cg_name 5))
      (cs_seq (cs_if (ct_or (ct_test (ce_op opl_neL (ce_var 5) (ce_lst (ca_cons (ce_c (.bl _)) (ca_cons (ce_c (.bl _)) (ca_cons (ce_c (.bl _)) (ca_cons (ce_c (.bl _)) (ca_cons (ce_c (.bl _)) (ca_cons (ce_c (.bl _)) ca_nil))))))))) (ct_not (ct_b (ce_callU (ca_cons (ce_var 1) (ca_cons (ce_var 3) ca_nil))))))
      (cs_ret (ce_c (.bl _)))
      cs_next)
      (cs_if (ct_and (ct_test (ce_op (opl_I0 fun _ _ => .bl _) (ce_ixT (ce_var 3) (ce_c (.int _))) (ce_c (.int _)))) (ct_not (ct_b (ce_callP (ca_cons (ce_var 3) ca_nil)))))
      (cs_ret (ce_c (.bl _)))
      cs_next))))))
      (cs_ret (ce_c (.bl _)))), fun o B => ?_⟩
  walk_at "v"
  refine drawL B (by decide) (by decide) fun d o1 d0 d1 B1 => ?_
  walk_at "v"
  refine rng_at (by omega) (by omega) ?_
  refine ufor_rng (fun i ρ M' => ∃ x2 x3 x4 x5 o, ρ = [none, some (.m 0), x2, x3, x4, x5] ∧ BagO o ∧ M' = [o]) ⟨_, _, _, _, _, rfl, B1, rfl⟩ ?_ ?_
  · rintro i ρ M' hi ⟨x2, x3, x4, x5, o2, rfl, B2, rfl⟩
    walk_at "v"
    refine layL B2 fun o3 bits ms B3 hR => ?_
    have hb1 := hR.b
    have hn5 := hR.n
    obtain ⟨m, hm⟩ := hR.kind (kind := "small") (by decide)
    have hmw := hR.w m hm.mem
    have hnd := need_ge m.1
    walk_at "v"
    refine ⟨bits, ms, "small", m, rfl, by omega, hm, ?_⟩
    walk_at "v"
    refine ⟨⟨by omega, by omega, by decide⟩, ?_⟩
    rw [Int.one_mul]
    have hge := half_ge (s := bits - m.2.1) (by omega)
    generalize hh : (2 : Int) ^ (bits - m.2.1 - 1).toNat = half at hge ⊢
    walk_at "v"
    refine ucomp_list (ts := [half - 1, half, 0 - half, -1 - half, 0, -1].map T.int) (Nat.le_of_lt (Nat.lt_of_le_of_lt (show 6 ≤ 6 by decide) (by decide))) (fun i acc M' => M' = [o3] ∧ acc = (([half - 1, half, 0 - half, -1 - half, 0, -1].take i).map fun n => T.bl (smallB (bits - m.2.1) n))) ⟨rfl, rfl⟩ ?_ ?_
    · rintro i x acc M' hx _ ⟨rfl, rfl⟩
      obtain ⟨n, hn, rfl⟩ := get_map hx
      walk_at "v"
      refine ⟨bits, ms, n, m, rfl, by omega, hm, by omega, by omega, ?_⟩
      walk_at "v"
      rw [take_succ_get hn, List.map_append]
      rfl
    rintro acc M' ⟨rfl, rfl⟩
    have hed : ([half - 1, half, 0 - half, -1 - half, 0, -1].map fun n => smallB (bits - m.2.1) n) = [true, false, true, false, true, true] := by
      unfold smallB
      rw [hh]
      simp only [List.map_cons, List.map_nil]
      rw [decide_eq_true (show -half ≤ half - 1 ∧ half - 1 < half by omega), decide_eq_false (show ¬ (-half ≤ half ∧ half < half) by omega), decide_eq_true (show -half ≤ 0 - half ∧ 0 - half < half by omega), decide_eq_false (show ¬ (-half ≤ -1 - half ∧ -1 - half < half) by omega), decide_eq_true (show -half ≤ 0 ∧ 0 < half by omega), decide_eq_true (show -half ≤ -1 ∧ -1 < half by omega)]
    have hed2 : (([half - 1, half, 0 - half, -1 - half, 0, -1].take ([half - 1, half, 0 - half, -1 - half, 0, -1].map T.int).length).map fun n => T.bl (smallB (bits - m.2.1) n)) = [true, false, true, false, true, true].map T.bl := by
      rw [← hed, List.length_map, List.take_length, List.map_map]
      rfl
    rw [hed2]
    walk_at "v"
    refine eqBls (ns := [true, false, true, false, true, true]) (ms := [true, false, true, false, true, true]) ?_
    walk_at "v"
    refine someRL B3 hR fun o4 B4 => ?_
    walk_at "v"
    refine ite2 (fun h11 => ?_) (fun h11 => ?_)
    · refine ⟨bits, ms, rfl, hR, by omega, ?_⟩
      walk_at "v"
      exact ⟨_, _, _, _, _, rfl, B4, rfl⟩
    · exact ⟨_, _, _, _, _, rfl, B4, rfl⟩
  · rintro ρ M' ⟨x2, x3, x4, x5, o2, rfl, B2, rfl⟩
    walk_at "v"

end
end Mw
namespace Mw
open PySem L2
theorem all_mk {l : PySem.W.OpenLaw} {w : World} {K : PySem.W.Frag} {h : Heap} {mg : Str → Option Value} {fa f1 f2 f3 f4 f5 f6 f7 f8 f9 f10 f11 f12 f13 f14 f15 f16 f17 f18 f19 f20 f21 f22 f23 : Addr} (X : K.In h) (G : h.Ns mainGlobals mg) (hfa : mg "law" = some (.ref fa))
    {od1 an1 od2 an2 od3 an3 od4 an4 od5 an5 od6 an6 od7 an7 od8 an8 od9 an9 od10 an10 od11 an11 od12 an12 od13 an13 od14 an14 od15 an15 od16 an16 od17 an17 od18 an18 od19 an19 od20 an20 od21 an21 od22 an22 od23 an23 : Option Addr} {sl1 sl2 sl3 sl4 sl5 sl6 sl7 sl8 sl9 sl10 sl11 sl12 sl13 sl14 sl15 sl16 sl17 sl18 sl19 sl20 sl21 sl22 sl23 : Array (Option Value)} {oc1 kV1 dc1 pm1 cd1 ct1 oc2 kV2 dc2 pm2 cd2 ct2 oc3 kV3 dc3 pm3 cd3 ct3 oc4 kV4 dc4 pm4 cd4 ct4 oc5 kV5 dc5 pm5 cd5 ct5 oc6 kV6 dc6 pm6 cd6 ct6 oc7 kV7 dc7 pm7 cd7 ct7 oc8 kV8 dc8 pm8 cd8 ct8 oc9 kV9 dc9 pm9 cd9 ct9 oc10 kV10 dc10 pm10 cd10 ct10 oc11 kV11 dc11 pm11 cd11 ct11 oc12 kV12 dc12 pm12 cd12 ct12 oc13 kV13 dc13 pm13 cd13 ct13 oc14 kV14 dc14 pm14 cd14 ct14 oc15 kV15 dc15 pm15 cd15 ct15 oc16 kV16 dc16 pm16 cd16 ct16 oc17 kV17 dc17 pm17 cd17 ct17 oc18 kV18 dc18 pm18 cd18 ct18 oc19 kV19 dc19 pm19 cd19 ct19 oc20 kV20 dc20 pm20 cd20 ct20 oc21 kV21 dc21 pm21 cd21 ct21 oc22 kV22 dc22 pm22 cd22 ct22 oc23 kV23 dc23 pm23 cd23 ct23 : Value} {ft1 : Addr} {tn1 : Nat} {tsl1 : Array (Option Value)} {tk1_0 tk1_1 tk1_2 : Tok} {gk1 : Tok}
    (a1 : PySem.W.nsIn K mainGlobals "_law_bag" = some (some (.ref f1))) (l1 : K.lookup f1 = some ⟨oc1, od1, .func (PySem.W.fnOf "_law_bag" "_law_bag" (defArgs sBag) (defBody sBag) (defScope sBag) .none kV1 dc1 pm1 an1 cd1 ct1), sl1⟩) (c1 : PySem.W.codeIn K cd1 "_law_bag" = true) (k1 : PySem.W.keepIn K (.ref f1) = true)
    (a2 : PySem.W.nsIn K mainGlobals "_law_draw" = some (some (.ref f2))) (l2 : K.lookup f2 = some ⟨oc2, od2, .func (PySem.W.fnOf "_law_draw" "_law_draw" (defArgs sDraw) (defBody sDraw) (defScope sDraw) .none kV2 dc2 pm2 an2 cd2 ct2), sl2⟩) (c2 : PySem.W.codeIn K cd2 "_law_draw" = true) (k2 : PySem.W.keepIn K (.ref f2) = true)
    (a3 : PySem.W.nsIn K mainGlobals "_law_full_laying" = some (some (.ref f3))) (l3 : K.lookup f3 = some ⟨oc3, od3, .func (PySem.W.fnOf "_law_full_laying" "_law_full_laying" (defArgs sFullLaying) (defBody sFullLaying) (defScope sFullLaying) .none kV3 dc3 pm3 an3 cd3 ct3), sl3⟩) (c3 : PySem.W.codeIn K cd3 "_law_full_laying" = true) (k3 : PySem.W.keepIn K (.ref f3) = true)
    (a4 : PySem.W.nsIn K mainGlobals "_law_laying" = some (some (.ref f4))) (l4 : K.lookup f4 = some ⟨oc4, od4, .func (PySem.W.fnOf "_law_laying" "_law_laying" (defArgs sLaying) (defBody sLaying) (defScope sLaying) .none kV4 dc4 pm4 an4 cd4 ct4), sl4⟩) (c4 : PySem.W.codeIn K cd4 "_law_laying" = true) (k4 : PySem.W.keepIn K (.ref f4) = true)
    (a5 : PySem.W.nsIn K mainGlobals "mark_for" = some (some (.ref f5))) (l5 : K.lookup f5 = some ⟨oc5, od5, .func (PySem.W.fnOf "mark_for" "mark_for" (defArgs sMarkFor) (defBody sMarkFor) (defScope sMarkFor) .none kV5 dc5 pm5 an5 cd5 ct5), sl5⟩) (c5 : PySem.W.codeIn K cd5 "mark_for" = true) (k5 : PySem.W.keepIn K (.ref f5) = true)
    (a6 : PySem.W.nsIn K mainGlobals "_law_mark" = some (some (.ref f6))) (l6 : K.lookup f6 = some ⟨oc6, od6, .func (PySem.W.fnOf "_law_mark" "_law_mark" (defArgs sMark) (defBody sMark) (defScope sMark) .none kV6 dc6 pm6 an6 cd6 ct6), sl6⟩) (c6 : PySem.W.codeIn K cd6 "_law_mark" = true) (k6 : PySem.W.keepIn K (.ref f6) = true)
    (a7 : PySem.W.nsIn K mainGlobals "load_bits" = some (some (.ref f7))) (l7 : K.lookup f7 = some ⟨oc7, od7, .func (PySem.W.fnOf "load_bits" "load_bits" (defArgs sLoadBits) (defBody sLoadBits) (defScope sLoadBits) .none kV7 dc7 pm7 an7 cd7 ct7), sl7⟩) (c7 : PySem.W.codeIn K cd7 "load_bits" = true) (k7 : PySem.W.keepIn K (.ref f7) = true)
    (a8 : PySem.W.nsIn K mainGlobals "_law_load" = some (some (.ref f8))) (l8 : K.lookup f8 = some ⟨oc8, od8, .func (PySem.W.fnOf "_law_load" "_law_load" (defArgs sLoad) (defBody sLoad) (defScope sLoad) .none kV8 dc8 pm8 an8 cd8 ct8), sl8⟩) (c8 : PySem.W.codeIn K cd8 "_law_load" = true) (k8 : PySem.W.keepIn K (.ref f8) = true)
    (a9 : PySem.W.nsIn K mainGlobals "kinds_on" = some (some (.ref f9))) (l9 : K.lookup f9 = some ⟨oc9, od9, .func (PySem.W.fnOf "kinds_on" "kinds_on" (defArgs sKindsOn) (defBody sKindsOn) (defScope sKindsOn) .none kV9 dc9 pm9 an9 cd9 ct9), sl9⟩) (c9 : PySem.W.codeIn K cd9 "kinds_on" = true) (k9 : PySem.W.keepIn K (.ref f9) = true)
    (a10 : PySem.W.nsIn K mainGlobals "mark_of" = some (some (.ref f10))) (l10 : K.lookup f10 = some ⟨oc10, od10, .func (PySem.W.fnOf "mark_of" "mark_of" (defArgs sMarkOf) (defBody sMarkOf) (defScope sMarkOf) .none kV10 dc10 pm10 an10 cd10 ct10), sl10⟩) (c10 : PySem.W.codeIn K cd10 "mark_of" = true) (k10 : PySem.W.keepIn K (.ref f10) = true)
    (a11 : PySem.W.nsIn K mainGlobals "load_of" = some (some (.ref f11))) (l11 : K.lookup f11 = some ⟨oc11, od11, .func (PySem.W.fnOf "load_of" "load_of" (defArgs sLoadOf) (defBody sLoadOf) (defScope sLoadOf) .none kV11 dc11 pm11 an11 cd11 ct11), sl11⟩) (c11 : PySem.W.codeIn K cd11 "load_of" = true) (k11 : PySem.W.keepIn K (.ref f11) = true)
    (a12 : PySem.W.nsIn K mainGlobals "marked" = some (some (.ref f12))) (l12 : K.lookup f12 = some ⟨oc12, od12, .func (PySem.W.fnOf "marked" "marked" (defArgs sMarked) (defBody sMarked) (defScope sMarked) .none kV12 dc12 pm12 an12 cd12 ct12), sl12⟩) (c12 : PySem.W.codeIn K cd12 "marked" = true) (k12 : PySem.W.keepIn K (.ref f12) = true)
    (a13 : PySem.W.nsIn K mainGlobals "small_of" = some (some (.ref f13))) (l13 : K.lookup f13 = some ⟨oc13, od13, .func (PySem.W.fnOf "small_of" "small_of" (defArgs sSmallOf) (defBody sSmallOf) (defScope sSmallOf) .none kV13 dc13 pm13 an13 cd13 ct13), sl13⟩) (c13 : PySem.W.codeIn K cd13 "small_of" = true) (k13 : PySem.W.keepIn K (.ref f13) = true)
    (a14 : PySem.W.nsIn K mainGlobals "worth_of" = some (some (.ref f14))) (l14 : K.lookup f14 = some ⟨oc14, od14, .func (PySem.W.fnOf "worth_of" "worth_of" (defArgs sWorthOf) (defBody sWorthOf) (defScope sWorthOf) .none kV14 dc14 pm14 an14 cd14 ct14), sl14⟩) (c14 : PySem.W.codeIn K cd14 "worth_of" = true) (k14 : PySem.W.keepIn K (.ref f14) = true)
    (a15 : PySem.W.nsIn K mainGlobals "word_of" = some (some (.ref f15))) (l15 : K.lookup f15 = some ⟨oc15, od15, .func (PySem.W.fnOf "word_of" "word_of" (defArgs sWordOf) (defBody sWordOf) (defScope sWordOf) .none kV15 dc15 pm15 an15 cd15 ct15), sl15⟩) (c15 : PySem.W.codeIn K cd15 "word_of" = true) (k15 : PySem.W.keepIn K (.ref f15) = true)
    (a16 : PySem.W.nsIn K mainGlobals "is_small" = some (some (.ref f16))) (l16 : K.lookup f16 = some ⟨oc16, od16, .func (PySem.W.fnOf "is_small" "is_small" (defArgs sIsSmall) (defBody sIsSmall) (defScope sIsSmall) .none kV16 dc16 pm16 an16 cd16 ct16), sl16⟩) (c16 : PySem.W.codeIn K cd16 "is_small" = true) (k16 : PySem.W.keepIn K (.ref f16) = true)
    (a17 : PySem.W.nsIn K mainGlobals "_law_number" = some (some (.ref f17))) (l17 : K.lookup f17 = some ⟨oc17, od17, .func (PySem.W.fnOf "_law_number" "_law_number" (defArgs sNumber) (defBody sNumber) (defScope sNumber) .none kV17 dc17 pm17 an17 cd17 ct17), sl17⟩) (c17 : PySem.W.codeIn K cd17 "_law_number" = true) (k17 : PySem.W.keepIn K (.ref f17) = true)
    (a18 : PySem.W.nsIn K mainGlobals "_law_some_word" = some (some (.ref f18))) (l18 : K.lookup f18 = some ⟨oc18, od18, .func (PySem.W.fnOf "_law_some_word" "_law_some_word" (defArgs sSomeWord) (defBody sSomeWord) (defScope sSomeWord) .none kV18 dc18 pm18 an18 cd18 ct18), sl18⟩) (c18 : PySem.W.codeIn K cd18 "_law_some_word" = true) (k18 : PySem.W.keepIn K (.ref f18) = true)
    (a19 : PySem.W.nsIn K mainGlobals "_law_alike" = some (some (.ref f19))) (l19 : K.lookup f19 = some ⟨oc19, od19, .func (PySem.W.fnOf "_law_alike" "_law_alike" (defArgs sAlike) (defBody sAlike) (defScope sAlike) .none kV19 dc19 pm19 an19 cd19 ct19), sl19⟩) (c19 : PySem.W.codeIn K cd19 "_law_alike" = true) (k19 : PySem.W.keepIn K (.ref f19) = true)
    (a20 : PySem.W.nsIn K mainGlobals "_law_all_worths" = some (some (.ref f20))) (l20 : K.lookup f20 = some ⟨oc20, od20, .func (PySem.W.fnOf "_law_all_worths" "_law_all_worths" (defArgs sAllWorths) (defBody sAllWorths) (defScope sAllWorths) .none kV20 dc20 pm20 an20 cd20 ct20), sl20⟩) (c20 : PySem.W.codeIn K cd20 "_law_all_worths" = true) (k20 : PySem.W.keepIn K (.ref f20) = true)
    (a21 : PySem.W.nsIn K mainGlobals "_law_all_right" = some (some (.ref f21))) (l21 : K.lookup f21 = some ⟨oc21, od21, .func (PySem.W.fnOf "_law_all_right" "_law_all_right" (defArgs sAllRight) (defBody sAllRight) (defScope sAllRight) .none kV21 dc21 pm21 an21 cd21 ct21), sl21⟩) (c21 : PySem.W.codeIn K cd21 "_law_all_right" = true) (k21 : PySem.W.keepIn K (.ref f21) = true)
    (a22 : PySem.W.nsIn K mainGlobals "_law_some_right" = some (some (.ref f22))) (l22 : K.lookup f22 = some ⟨oc22, od22, .func (PySem.W.fnOf "_law_some_right" "_law_some_right" (defArgs sSomeRight) (defBody sSomeRight) (defScope sSomeRight) .none kV22 dc22 pm22 an22 cd22 ct22), sl22⟩) (c22 : PySem.W.codeIn K cd22 "_law_some_right" = true) (k22 : PySem.W.keepIn K (.ref f22) = true)
    (a23 : PySem.W.nsIn K mainGlobals "law" = some (some (.ref f23))) (l23 : K.lookup f23 = some ⟨oc23, od23, .func (PySem.W.fnOf "law" "law" (defArgs sLaw) (defBody sLaw) (defScope sLaw) .none kV23 dc23 pm23 an23 cd23 ct23), sl23⟩) (c23 : PySem.W.codeIn K cd23 "law" = true) (k23 : PySem.W.keepIn K (.ref f23) = true)
    (z1 : PySem.W.nsIn K mainGlobals "abs" = some none)
    (z2 : PySem.W.nsIn K mainGlobals "len" = some none)
    (z3 : PySem.W.nsIn K mainGlobals "min" = some none)
    (z4 : PySem.W.nsIn K mainGlobals "max" = some none)
    (z5 : PySem.W.nsIn K mainGlobals "sum" = some none)
    (z6 : PySem.W.nsIn K mainGlobals "sorted" = some none)
    (z7 : PySem.W.nsIn K mainGlobals "all" = some none)
    (z8 : PySem.W.nsIn K mainGlobals "any" = some none)
    (z9 : PySem.W.nsIn K mainGlobals "isinstance" = some none)
    (z10 : PySem.W.nsIn K mainGlobals "range" = some none)
    (z11 : PySem.W.nsIn K mainGlobals "int" = some none)
    (z12 : PySem.W.nsIn K mainGlobals "list" = some none)
    (z13 : PySem.W.nsIn K mainGlobals "str" = some none)
    (z14 : PySem.W.nsIn K mainGlobals "bool" = some none)
    (z15 : PySem.W.nsIn K mainGlobals "tuple" = some none)
    (z16 : PySem.W.nsIn K mainGlobals "zip" = some none)
    (z17 : PySem.W.nsIn K mainGlobals "enumerate" = some none)
    (z18 : PySem.W.nsIn K mainGlobals "dict" = some none)
    (p1 : PySem.W.nsIn K mainGlobals "THREE" = some (some (.ref ft1))) (q1 : K.lookup ft1 = some ⟨.type "tuple", none, .seq #[.str "none" tk1_0, .str "no" tk1_1, .str "yes" tk1_2] tn1, tsl1⟩)
    (g1 : PySem.W.nsIn K mainGlobals "SIGNS" = some (some (.int 128 gk1))) :
    ∃ fd : FuncData, (∀ (s : Shared) (v : Value), BindsTo s fd ⟨[v], []⟩ [("script", v)]) ∧ ∀ base : Heap, K.In base → base.Ns mainGlobals mg → FnOk l.prog w K mg base CX0 6 fa fd ["script"] (spLaw K) := by
  have e := hfa.symm.trans (PySem.W.mg_of X G a23)
  cases e
  have N : Nms mg := ⟨PySem.W.mg_none_of X G z1, PySem.W.mg_none_of X G z2, PySem.W.mg_none_of X G z3, PySem.W.mg_none_of X G z4, PySem.W.mg_none_of X G z5, PySem.W.mg_none_of X G z6, PySem.W.mg_none_of X G z7, PySem.W.mg_none_of X G z8, PySem.W.mg_none_of X G z9, PySem.W.mg_none_of X G z10, PySem.W.mg_none_of X G z11, PySem.W.mg_none_of X G z12, PySem.W.mg_none_of X G z13, PySem.W.mg_none_of X G z14, PySem.W.mg_none_of X G z15, PySem.W.mg_none_of X G z16, PySem.W.mg_none_of X G z17, PySem.W.mg_none_of X G z18⟩
  have T3 : Tup3 K mg "THREE" ft1 "none" "no" "yes" := ⟨PySem.W.mg_of X G p1, _, _, _, _, _, q1⟩
  have GSigns : GInt mg "SIGNS" 128 := ⟨_, PySem.W.mg_of X G g1⟩
  have F1 := fun_mk (st := sBag) l1 c1 k1
  have b1 := F1.binds (ps := ["script"]) fun _ _ _ _ _ _ us hl => match us, hl with | [_], _ => rfl
  have F2 := fun_mk (st := sDraw) l2 c2 k2
  have b2 := F2.binds (ps := ["bag", "many"]) fun _ _ _ _ _ _ us hl => match us, hl with | [_, _], _ => rfl
  have F3 := fun_mk (st := sFullLaying) l3 c3 k3
  have b3 := F3.binds (ps := ["bag", "bits", "order"]) fun _ _ _ _ _ _ us hl => match us, hl with | [_, _, _], _ => rfl
  have F4 := fun_mk (st := sLaying) l4 c4 k4
  have b4 := F4.binds (ps := ["bag"]) fun _ _ _ _ _ _ us hl => match us, hl with | [_], _ => rfl
  have F5 := fun_mk (st := sMarkFor) l5 c5 k5
  have b5 := F5.binds (ps := ["laying", "kind"]) fun _ _ _ _ _ _ us hl => match us, hl with | [_, _], _ => rfl
  have F6 := fun_mk (st := sMark) l6 c6 k6
  have b6 := F6.binds (ps := ["laying", "kind"]) fun _ _ _ _ _ _ us hl => match us, hl with | [_, _], _ => rfl
  have F7 := fun_mk (st := sLoadBits) l7 c7 k7
  have b7 := F7.binds (ps := ["laying", "kind"]) fun _ _ _ _ _ _ us hl => match us, hl with | [_, _], _ => rfl
  have F8 := fun_mk (st := sLoad) l8 c8 k8
  have b8 := F8.binds (ps := ["laying", "kind"]) fun _ _ _ _ _ _ us hl => match us, hl with | [_, _], _ => rfl
  have F9 := fun_mk (st := sKindsOn) l9 c9 k9
  have b9 := F9.binds (ps := ["marks", "word"]) fun _ _ _ _ _ _ us hl => match us, hl with | [_, _], _ => rfl
  have F10 := fun_mk (st := sMarkOf) l10 c10 k10
  have b10 := F10.binds (ps := ["laying", "word"]) fun _ _ _ _ _ _ us hl => match us, hl with | [_, _], _ => rfl
  have F11 := fun_mk (st := sLoadOf) l11 c11 k11
  have b11 := F11.binds (ps := ["laying", "word", "kind"]) fun _ _ _ _ _ _ us hl => match us, hl with | [_, _, _], _ => rfl
  have F12 := fun_mk (st := sMarked) l12 c12 k12
  have b12 := F12.binds (ps := ["laying", "kind", "load"]) fun _ _ _ _ _ _ us hl => match us, hl with | [_, _, _], _ => rfl
  have F13 := fun_mk (st := sSmallOf) l13 c13 k13
  have b13 := F13.binds (ps := ["bits", "load"]) fun _ _ _ _ _ _ us hl => match us, hl with | [_, _], _ => rfl
  have F14 := fun_mk (st := sWorthOf) l14 c14 k14
  have b14 := F14.binds (ps := ["laying", "word"]) fun _ _ _ _ _ _ us hl => match us, hl with | [_, _], _ => rfl
  have F15 := fun_mk (st := sWordOf) l15 c15 k15
  have b15 := F15.binds (ps := ["laying", "worth"]) fun _ _ _ _ _ _ us hl => match us, hl with | [_, _], _ => rfl
  have F16 := fun_mk (st := sIsSmall) l16 c16 k16
  have b16 := F16.binds (ps := ["laying", "n"]) fun _ _ _ _ _ _ us hl => match us, hl with | [_, _], _ => rfl
  have F17 := fun_mk (st := sNumber) l17 c17 k17
  have b17 := F17.binds (ps := ["bag", "laying"]) fun _ _ _ _ _ _ us hl => match us, hl with | [_, _], _ => rfl
  have F18 := fun_mk (st := sSomeWord) l18 c18 k18
  have b18 := F18.binds (ps := ["bag", "laying"]) fun _ _ _ _ _ _ us hl => match us, hl with | [_, _], _ => rfl
  have F19 := fun_mk (st := sAlike) l19 c19 k19
  have b19 := F19.binds (ps := ["found", "due"]) fun _ _ _ _ _ _ us hl => match us, hl with | [_, _], _ => rfl
  have F20 := fun_mk (st := sAllWorths) l20 c20 k20
  have b20 := F20.binds (ps := ["laying"]) fun _ _ _ _ _ _ us hl => match us, hl with | [_], _ => rfl
  have F21 := fun_mk (st := sAllRight) l21 c21 k21
  have b21 := F21.binds (ps := ["laying"]) fun _ _ _ _ _ _ us hl => match us, hl with | [_], _ => rfl
  have F22 := fun_mk (st := sSomeRight) l22 c22 k22
  have b22 := F22.binds (ps := ["bag", "laying"]) fun _ _ _ _ _ _ us hl => match us, hl with | [_, _], _ => rfl
  have F23 := fun_mk (st := sLaw) l23 c23 k23
  refine ⟨PySem.W.fnOf "law" "law" (defArgs sLaw) (defBody sLaw) (defScope sLaw) .none kV23 dc23 pm23 an23 cd23 ct23, fun s v => .of_eq rfl, fun base _ _ => ?_⟩
  have DBag : Def l.prog w K mg base "_law_bag" 1 ["script"] (spBag K) := ⟨f1, _, PySem.W.mg_of X G a1, k1, b1, ok_bag F1 N⟩
  have DDraw : Def l.prog w K mg base "_law_draw" 1 ["bag", "many"] (spU gDraw) := ⟨f2, _, PySem.W.mg_of X G a2, k2, b2, ok_drawU F2 N⟩
  have DFullLaying : Def l.prog w K mg base "_law_full_laying" 2 ["bag", "bits", "order"] (spU gFull) := ⟨f3, _, PySem.W.mg_of X G a3, k3, b3, ok_fullU F3 N DDraw⟩
  have DLaying : Def l.prog w K mg base "_law_laying" 3 ["bag"] (spU gLaying) := ⟨f4, _, PySem.W.mg_of X G a4, k4, b4, ok_layingU F4 N DDraw DFullLaying⟩
  have DMarkFor : Def l.prog w K mg base "mark_for" 1 ["laying", "kind"] (spP gMark) := ⟨f5, _, PySem.W.mg_of X G a5, k5, b5, ok_mark_forU F5⟩
  have DMark : Def l.prog w K mg base "_law_mark" 1 ["laying", "kind"] (spP gMark) := ⟨f6, _, PySem.W.mg_of X G a6, k6, b6, ok_law_markU F6⟩
  have DLoadBits : Def l.prog w K mg base "load_bits" 2 ["laying", "kind"] (spP gLoad) := ⟨f7, _, PySem.W.mg_of X G a7, k7, b7, ok_load_bitsU F7 DMarkFor⟩
  have DLoad : Def l.prog w K mg base "_law_load" 2 ["laying", "kind"] (spP gLoad) := ⟨f8, _, PySem.W.mg_of X G a8, k8, b8, ok_law_loadU F8 DMark⟩
  have DKindsOn : Def l.prog w K mg base "kinds_on" 1 ["marks", "word"] (spP gKindsOn) := ⟨f9, _, PySem.W.mg_of X G a9, k9, b9, ok_kinds_onU F9⟩
  have DMarkOf : Def l.prog w K mg base "mark_of" 2 ["laying", "word"] (spP gMarkOf) := ⟨f10, _, PySem.W.mg_of X G a10, k10, b10, ok_mark_ofU F10 DKindsOn⟩
  have DLoadOf : Def l.prog w K mg base "load_of" 2 ["laying", "word", "kind"] (spP gLoadOf) := ⟨f11, _, PySem.W.mg_of X G a11, k11, b11, ok_load_ofU F11 DMarkFor⟩
  have DMarked : Def l.prog w K mg base "marked" 2 ["laying", "kind", "load"] (spP gMarked) := ⟨f12, _, PySem.W.mg_of X G a12, k12, b12, ok_markedU F12 DMarkFor⟩
  have DSmallOf : Def l.prog w K mg base "small_of" 1 ["bits", "load"] (spP gSmallOf) := ⟨f13, _, PySem.W.mg_of X G a13, k13, b13, ok_small_ofU F13⟩
  have DWorthOf : Def l.prog w K mg base "worth_of" 3 ["laying", "word"] (spP gWorthOf) := ⟨f14, _, PySem.W.mg_of X G a14, k14, b14, ok_worth_ofU F14 N T3 GSigns DMarkOf DLoadOf DSmallOf DLoadBits⟩
  have DWordOf : Def l.prog w K mg base "word_of" 3 ["laying", "worth"] (spP gWordOf) := ⟨f15, _, PySem.W.mg_of X G a15, k15, b15, ok_word_ofU F15 N T3 DMarked DLoadBits⟩
  have DIsSmall : Def l.prog w K mg base "is_small" 3 ["laying", "n"] (spP gIsSmall) := ⟨f16, _, PySem.W.mg_of X G a16, k16, b16, ok_is_smallU F16 DLoadBits⟩
  have DNumber : Def l.prog w K mg base "_law_number" 3 ["bag", "laying"] (spU gNumber) := ⟨f17, _, PySem.W.mg_of X G a17, k17, b17, ok_numberU F17 N DDraw DLoad⟩
  have DSomeWord : Def l.prog w K mg base "_law_some_word" 2 ["bag", "laying"] (spU gSomeWord) := ⟨f18, _, PySem.W.mg_of X G a18, k18, b18, ok_some_wordU F18 N DDraw⟩
  have DAlike : Def l.prog w K mg base "_law_alike" 4 ["found", "due"] (spP (gAlike 3)) := ⟨f19, _, PySem.W.mg_of X G a19, k19, b19, ok_alike3U F19 N (PySem.W.mg_of X G a19) k19 b19⟩
  have DAllWorths : Def l.prog w K mg base "_law_all_worths" 3 ["laying"] (spP gAllWorths) := ⟨f20, _, PySem.W.mg_of X G a20, k20, b20, ok_all_worthsU F20 N DLoad⟩
  have DAllRight : Def l.prog w K mg base "_law_all_right" 5 ["laying"] (spP gAllRight) := ⟨f21, _, PySem.W.mg_of X G a21, k21, b21, ok_all_rightU F21 N DAllWorths DWordOf DWorthOf DAlike⟩
  have DSomeRight : Def l.prog w K mg base "_law_some_right" 5 ["bag", "laying"] (spU gSomeRight) := ⟨f22, _, PySem.W.mg_of X G a22, k22, b22, ok_some_rightU F22 N DDraw DSomeWord DNumber DWordOf DWorthOf DIsSmall DAlike⟩
  exact ok_lawU F23 N DBag DDraw DLaying DLoadBits DIsSmall DSomeRight DAllRight
theorem walk {l : PySem.W.OpenLaw} {q : Program} {loose : List Str} {XP : (Str → Option Value) → Heap → Prop} {YP : World → Heap → Prop} {d : DefRec} {K : Params → PySem.W.Frag} (hn : l.most = some 63) (hdf : d.params.defaults = [])
    (hY : ∀ (w : World) (h : Heap), YP w h → (K w.params).In h)
    (F : ∀ (w : World) (mg : Str → Option Value) (fa : Addr) (h : Heap), (K w.params).In h → h.Ns mainGlobals mg → mg d.name = some (.ref fa) →
      ∃ fd : FuncData, (∀ (s : Shared) (u : Value), BindsTo s fd ⟨[u], []⟩ [("script", u)]) ∧ ∀ base : Heap, (K w.params).In base → base.Ns mainGlobals mg → FnOk l.prog w (K w.params) mg base CX0 6 fa fd ["script"] (spLaw (K w.params))) :
    PySem.W.WalkO q loose XP YP l.row.toRowW d [] (fun f vs => PySem.call f vs) :=
  L2.walk_of (n := 63) (k := 6) (x := "script") (CX := fun _ => CX0) (sp := fun w => spLaw (K w.params)) hn (by decide) hdf ⟨rfl, by decide, by decide⟩ hY F (fun _ _ a ns hl _ hS => ⟨a, ns, rfl, hS, hl, fun _ => rfl⟩) fun _ _ _ _ _ z => z
end Mw
open PySem PySem.W PyProof.Rows
set_option maxRecDepth 100000 in
set_option maxHeartbeats 0 in
theorem PySem.Challenge.cw_markwords_k23_whole_one_way_alone_holds : PySem.Challenge.rw_markwords_k23_whole_one_way_alone.Holds := by
  w_on; o_law; k_head; (case hw => w_witness2)
  k_fill
  refine Mw.walk (l := PySem.Challenge.rw_markwords_k23_whole_one_way_alone) rfl rfl (fun w h Y => PySem.W.kIn_of Y) ?F
  case F =>
    intro w mg fa h KX G hmg
    refine' Mw.all_mk KX G hmg ?a1 ?l1 ?c1 ?k1 ?a2 ?l2 ?c2 ?k2 ?a3 ?l3 ?c3 ?k3 ?a4 ?l4 ?c4 ?k4 ?a5 ?l5 ?c5 ?k5 ?a6 ?l6 ?c6 ?k6 ?a7 ?l7 ?c7 ?k7 ?a8 ?l8 ?c8 ?k8 ?a9 ?l9 ?c9 ?k9 ?a10 ?l10 ?c10 ?k10 ?a11 ?l11 ?c11 ?k11 ?a12 ?l12 ?c12 ?k12 ?a13 ?l13 ?c13 ?k13 ?a14 ?l14 ?c14 ?k14 ?a15 ?l15 ?c15 ?k15 ?a16 ?l16 ?c16 ?k16 ?a17 ?l17 ?c17 ?k17 ?a18 ?l18 ?c18 ?k18 ?a19 ?l19 ?c19 ?k19 ?a20 ?l20 ?c20 ?k20 ?a21 ?l21 ?c21 ?k21 ?a22 ?l22 ?c22 ?k22 ?a23 ?l23 ?c23 ?k23 ?z1 ?z2 ?z3 ?z4 ?z5 ?z6 ?z7 ?z8 ?z9 ?z10 ?z11 ?z12 ?z13 ?z14 ?z15 ?z16 ?z17 ?z18 ?p1 ?q1 ?g1
    (case a1 => k_is)
    (case l1 => k_is)
    (case c1 => k_is)
    (case k1 => k_is)
    (case a2 => k_is)
    (case l2 => k_is)
    (case c2 => k_is)
    (case k2 => k_is)
    (case a3 => k_is)
    (case l3 => k_is)
    (case c3 => k_is)
    (case k3 => k_is)
    (case a4 => k_is)
    (case l4 => k_is)
    (case c4 => k_is)
    (case k4 => k_is)
    (case a5 => k_is)
    (case l5 => k_is)
    (case c5 => k_is)
    (case k5 => k_is)
    (case a6 => k_is)
    (case l6 => k_is)
    (case c6 => k_is)
    (case k6 => k_is)
    (case a7 => k_is)
    (case l7 => k_is)
    (case c7 => k_is)
    (case k7 => k_is)
    (case a8 => k_is)
    (case l8 => k_is)
    (case c8 => k_is)
    (case k8 => k_is)
    (case a9 => k_is)
    (case l9 => k_is)
    (case c9 => k_is)
    (case k9 => k_is)
    (case a10 => k_is)
    (case l10 => k_is)
    (case c10 => k_is)
    (case k10 => k_is)
    (case a11 => k_is)
    (case l11 => k_is)
    (case c11 => k_is)
    (case k11 => k_is)
    (case a12 => k_is)
    (case l12 => k_is)
    (case c12 => k_is)
    (case k12 => k_is)
    (case a13 => k_is)
    (case l13 => k_is)
    (case c13 => k_is)
    (case k13 => k_is)
    (case a14 => k_is)
    (case l14 => k_is)
    (case c14 => k_is)
    (case k14 => k_is)
    (case a15 => k_is)
    (case l15 => k_is)
    (case c15 => k_is)
    (case k15 => k_is)
    (case a16 => k_is)
    (case l16 => k_is)
    (case c16 => k_is)
    (case k16 => k_is)
    (case a17 => k_is)
    (case l17 => k_is)
    (case c17 => k_is)
    (case k17 => k_is)
    (case a18 => k_is)
    (case l18 => k_is)
    (case c18 => k_is)
    (case k18 => k_is)
    (case a19 => k_is)
    (case l19 => k_is)
    (case c19 => k_is)
    (case k19 => k_is)
    (case a20 => k_is)
    (case l20 => k_is)
    (case c20 => k_is)
    (case k20 => k_is)
    (case a21 => k_is)
    (case l21 => k_is)
    (case c21 => k_is)
    (case k21 => k_is)
    (case a22 => k_is)
    (case l22 => k_is)
    (case c22 => k_is)
    (case k22 => k_is)
    (case a23 => k_is)
    (case l23 => k_is)
    (case c23 => k_is)
    (case k23 => k_is)
    (case z1 => k_is)
    (case z2 => k_is)
    (case z3 => k_is)
    (case z4 => k_is)
    (case z5 => k_is)
    (case z6 => k_is)
    (case z7 => k_is)
    (case z8 => k_is)
    (case z9 => k_is)
    (case z10 => k_is)
    (case z11 => k_is)
    (case z12 => k_is)
    (case z13 => k_is)
    (case z14 => k_is)
    (case z15 => k_is)
    (case z16 => k_is)
    (case z17 => k_is)
    (case z18 => k_is)
    (case p1 => k_is)
    (case q1 => k_is)
    (case g1 => k_is)
