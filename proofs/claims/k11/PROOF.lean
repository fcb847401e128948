import PyProof.Rows.All
import Wide.All
import OpenK.AllK
import Wide.FinOn
import Lean
import PyProof.EqAt
import PyProof.EqKinds
import PyProof.TupleCall
import PyProof.NeKinds
import PyProof.ZipIter
import PySem.Challenge.RW_chanceduel_k11_the_one_answer
set_option Elab.async false
set_option linter.all false
set_option maxRecDepth 100000
/-! THE HAND LAYER, for ints, bools, texts, own classes, LISTS and tuples (index, slices, in, append, pop ..), calls, loops. Paste it whole ahead of your own text; what your proof does not reach may be deleted. -/
namespace L2
open PySem PySem.Spec PyProof.Rows

/-- a key: an int or a str -/
abbrev Key := Sum Int Str
def keyIs : Key → Value → Bool
  | .inl k, v => Value.isInt k v
  | .inr x, v => Value.isStrOf x v
def keyH (w : World) : Key → Int
  | .inl k => hashInt k
  | .inr x => hashStr w x
theorem keyIs_shape : ∀ {k : Key} {v : Value}, keyIs k v = true → (∃ i t, k = Sum.inl i ∧ v = Value.int i t) ∨ (∃ x t, k = Sum.inr x ∧ v = Value.str x t)
  | .inl i, v, h => by
    obtain ⟨t, e⟩ := Value.isInt_shape (k := i) (v := v) h
    exact .inl ⟨i, t, rfl, e⟩
  | .inr x, v, h => by
    obtain ⟨t, e⟩ := Value.isStrOf_shape (x := x) (v := v) h
    exact .inr ⟨x, t, rfl, e⟩
theorem key_ll (a b : Int) : decide ((Sum.inl a : Key) = Sum.inl b) = (a == b) := by
  by_cases e : a = b
  · subst e; simp
  · have h : ¬ (Sum.inl a : Key) = Sum.inl b := fun q => e (Sum.inl.inj q)
    rw [decide_eq_false h]
    exact (beq_eq_false_iff_ne.mpr e).symm
theorem key_rr (a b : Str) : decide ((Sum.inr a : Key) = Sum.inr b) = decide (a = b) := by
  by_cases e : a = b
  · subst e; simp
  · have h : ¬ (Sum.inr a : Key) = Sum.inr b := fun q => e (Sum.inr.inj q)
    rw [decide_eq_false h, decide_eq_false e]
theorem key_lr (a : Int) (b : Str) : decide ((Sum.inl a : Key) = Sum.inr b) = false := decide_eq_false (fun q => nomatch q)
theorem key_rl (a : Str) (b : Int) : decide ((Sum.inr a : Key) = Sum.inl b) = false := decide_eq_false (fun q => nomatch q)

def mixKind (prog : Program) (w : World) : PySem.KeyKind prog w Key where
  is := keyIs
  hash := keyH w
  inj := fun v a b ha hb => by
    rcases keyIs_shape ha with ⟨i, t, rfl, rfl⟩ | ⟨x, t, rfl, rfl⟩
    · rcases keyIs_shape hb with ⟨j, u, rfl, e⟩ | ⟨y, u, rfl, e⟩
      · injection e with e1 _; rw [e1]
      · exact nomatch e
    · rcases keyIs_shape hb with ⟨j, u, rfl, e⟩ | ⟨y, u, rfl, e⟩
      · exact nomatch e
      · injection e with e1 _; rw [e1]
  byValue := fun k v h => by
    rcases keyIs_shape h with ⟨i, t, rfl, rfl⟩ | ⟨x, t, rfl, rfl⟩ <;> rfl
  pyHash := fun hv h => by
    rcases keyIs_shape hv with ⟨i, t, rfl, rfl⟩ | ⟨x, t, rfl, rfl⟩
    · exact wpAny_pyHash_int h
    · exact wpAny_pyHash_str h
  eqBool := fun hu hv h => by
    rcases keyIs_shape hu with ⟨i, t, rfl, rfl⟩ | ⟨x, t, rfl, rfl⟩
    · rcases keyIs_shape hv with ⟨j, u, rfl, rfl⟩ | ⟨y, u, rfl, rfl⟩
      · rw [key_ll] at h; exact wpAny_eqBool_int h
      · rw [key_lr] at h; exact SeqAt.EqAt.int_str i t y u _ _ _ _ h
    · rcases keyIs_shape hv with ⟨j, u, rfl, rfl⟩ | ⟨y, u, rfl, rfl⟩
      · rw [key_rl] at h; exact SeqAt.EqAt.str_int x t j u _ _ _ _ h
      · rw [key_rr] at h; exact wpAny_eqBool_str h
  «strs» := fun k x t v h => by
    rcases keyIs_shape h with ⟨i, u, rfl, e⟩ | ⟨y, u, rfl, e⟩
    · exact nomatch e
    · injection e with e1 _
      subst e1
      cases v <;> rfl

end L2

namespace L2
open PySem PySem.Spec PyProof.Rows

/-- a value, without the heap -/
inductive V where
  | non | bl (b : Bool) | int (i : Int) | str (x : Str) | byt (b : Array UInt8) | flt (b : UInt64) | ref (a : Addr) | ty (n : String)
  deriving DecidableEq

def RelV : V → Value → Prop
  | .non, u => u = Value.none
  | .bl b, u => u = Value.bool b
  | .int i, u => ∃ t, u = Value.int i t
  | .str x, u => ∃ t, u = Value.str x t
  | .byt b, u => ∃ t, u = Value.bytes b t
  | .flt b, u => ∃ t, u = Value.float b t
  | .ref a, u => u = Value.ref a
  | .ty n, u => u = Value.type n

abbrev Vals : List V → List Value → Prop := Paired RelV
theorem Vals.length {xs : List V} {us : List Value} (r : Vals xs us) : xs.length = us.length := Paired.length r
theorem Vals.get : ∀ {xs : List V} {us : List Value} {i : Nat} {x : V}, Vals xs us → xs[i]? = some x → ∃ u, us[i]? = some u ∧ RelV x u
  | _, _, _, _, .nil, e => by simp at e
  | _, _, 0, _, .cons r _, e => by simp at e; subst e; exact ⟨_, rfl, r⟩
  | _, _, i + 1, x, .cons _ t, e => by
    obtain ⟨u, h1, h2⟩ := Vals.get (i := i) (x := x) t (by simpa using e)
    exact ⟨u, by simpa using h1, h2⟩
theorem Vals.set {x : V} {u : Value} (r : RelV x u) : ∀ {xs : List V} {us : List Value} (i : Nat), Vals xs us → Vals (xs.set i x) (us.set i u)
  | _, _, _, .nil => .nil
  | _, _, 0, .cons _ t => .cons r t
  | _, _, i + 1, .cons q t => .cons q (Vals.set r i t)
theorem Vals.append : ∀ {xs ys : List V} {us ws : List Value}, Vals xs us → Vals ys ws → Vals (xs ++ ys) (us ++ ws)
  | _, _, _, _, .nil, s => s
  | _, _, _, _, .cons r t, s => .cons r (Vals.append t s)
theorem Vals.take : ∀ {xs : List V} {us : List Value} (n : Nat), Vals xs us → Vals (xs.take n) (us.take n)
  | _, _, 0, _ => .nil
  | _, _, _ + 1, .nil => .nil
  | _, _, n + 1, .cons r t => .cons r (Vals.take n t)
theorem Vals.drop : ∀ {xs : List V} {us : List Value} (n : Nat), Vals xs us → Vals (xs.drop n) (us.drop n)
  | _, _, 0, r => r
  | _, _, _ + 1, .nil => .nil
  | _, _, n + 1, .cons _ t => Vals.drop n t
def RelO : Option V → Option Value → Prop
  | some v, some u => RelV v u
  | none, none => True
  | _, _ => False
def KV {κ : Type} : List (κ × V) → List (κ × Value) → Prop := Paired fun (p : κ × V) (q : κ × Value) => p.1 = q.1 ∧ RelV p.2 q.2

/-- a key of a dict (00_mix): an int or a text -/
def kV : Key → V
  | .inl i => .int i
  | .inr x => .str x

/-- what stands at a tracked address -/
inductive HO where
  /-- a list -/
  | lst (xs : List V)
  /-- a tuple (never changes) -/
  | tup (xs : List V)
  /-- a dict whose keys are ints and texts; one whose keys are tuples of ints and texts (the empty one is both) -/
  | dK (kvs : List (Key × V)) | dT (kvs : List (List Key × V))
  /-- a set of ints: its members, its size -/
  | set (S : Int → Bool) (n : Nat)
  /-- an instance of the class at C, its dict at dx, its attributes -/
  | ins (C dx : Addr) (fs : List (Str × V))
  /-- the dict of the instance at x -/
  | own (x : Addr)
  /-- the dict of an exception -/
  | xd (fs : List (Str × V))
  /-- a bound method, f of x -/
  | met (f x : Addr)
  /-- a range object lo, lo + 1, .. below hi -/
  | rng (lo hi : Int)
  /-- a thing that is known to the object (the script; a dict while a loop walks it): read, never written while it is so -/
  | frz (o : Obj) (u : HO)
  /-- a code object's table -/
  | tbl (ps : Array Value)
  /-- any other thing, by what is true of its one object (a def of one's own: SetO a S n := HO.ext fun h => ..) -/
  | ext (φ : Heap → Prop)

abbrev Hp := Addr → Option HO
def upd (H : Hp) (a : Addr) (o : HO) : Hp := fun b => if b = a then some o else H b
theorem upd_same {H : Hp} {a : Addr} {o : HO} : upd H a o a = some o := by unfold upd; rw [if_pos rfl]
theorem upd_ne {H : Hp} {a b : Addr} {o : HO} (h : b ≠ a) : upd H a o b = H b := by unfold upd; rw [if_neg h]
theorem ne_of_none {H : Hp} {a b : Addr} {o : HO} (h : H a = some o) (h' : H b = none) : a ≠ b := by
  intro e; subst e; rw [h] at h'; cases h'

section
variable (P : Program) (w : World)
def ObjOk (H : Hp) (h : Heap) (a : Addr) : HO → Prop
  | .lst xs => xs.length ≤ sizeLine ∧ ∃ (its : List Value) (n : Nat), Vals xs its ∧ h.get? a = some { cls := .type "list", data := .seq its.toArray n }
  | .tup xs => xs.length ≤ sizeLine ∧ ∃ its : List Value, Vals xs its ∧ IsTup h a its.toArray
  | .dK kvs => kvs.length ≤ sizeLine ∧ (a == sysModules) = false ∧ ∃ vs, KV kvs vs ∧ h.DictOf (mixKind P w) a vs
  | .dT kvs => kvs.length ≤ sizeLine ∧ (a == sysModules) = false ∧ ∃ xs : List (List Key × Addr × Value),
      Paired (fun (p : List Key × V) (q : List Key × Addr × Value) => p.1 = q.1 ∧ H q.2.1 = some (.tup (p.1.map kV)) ∧ RelV p.2 q.2.2) kvs xs ∧
      ∃ o es ep, h.get? a = some o ∧ o.ExactDict ∧ o.data = .dict es ep ∧ es.toList = xs.map (entryOfKey (tupleKind (mixKind P w))) ∧ (xs.map (·.1)).Nodup
  | .set S n => h.SetOf (intKind P w) a S n
  | .ins C dx fs => H dx = some (.own a) ∧ fs.length ≤ 1000 ∧ dx ≠ a ∧ h.get? a = some (PySem.W.instObj C dx) ∧
      ∃ mA, h.Ns1 dx mA ∧ (∀ f, RelO (fs.lookup f) (mA f)) ∧ PySem.Within mA (fs.map (·.1))
  | .own _ => ∃ o, h.get? a = some o
  | .xd fs => ∃ mA, h.Ns1 a mA ∧ ∀ f, RelO (fs.lookup f) (mA f)
  | .rng lo hi => ∃ t u v, h.get? a = some { cls := .type "range", data := .fields #[.int lo t, .int hi u, .int 1 v] }
  | .frz o u => h.get? a = some o ∧ ObjOk H h a u
  | .tbl ps => h.get? a = some { cls := .none, data := .fields ps }
  | .met f x => h.get? a = some (PySem.W.methodObj (.ref f) (.ref x))
  | .ext φ => φ h ∧ (∃ o, h.get? a = some o) ∧ ∀ h1 h2 : Heap, φ h1 → (∀ o, h1.get? a = some o → h2.get? a = some o) → φ h2
/-- the abstract heap is held -/
def HOk (H : Hp) (h : Heap) : Prop := ∀ a o, H a = some o → ObjOk P w H h a o
end

section
variable {P : Program} {w : World} {H H' : Hp} {h h' : Heap} {a : Addr} {o : HO}
theorem ObjOk.lt (x : ObjOk P w H h a o) : a < h.objs.size := by
  cases o with
  | lst xs => obtain ⟨_, _, _, _, e⟩ := x; exact Heap.lt_size e
  | tup xs => obtain ⟨_, _, _, p⟩ := x; exact p.lt
  | dK kvs => obtain ⟨_, _, _, _, o, _, _, e, _⟩ := x; exact Heap.lt_size e
  | dT kvs => obtain ⟨_, _, _, _, o, _, _, e, _⟩ := x; exact Heap.lt_size e
  | set S n => obtain ⟨o, _, _, _, e, _⟩ := x; exact Heap.lt_size e
  | ins C dx fs => obtain ⟨_, _, _, e, _⟩ := x; exact Heap.lt_size e
  | own y => obtain ⟨_, e⟩ := x; exact Heap.lt_size e
  | xd fs => obtain ⟨_, ⟨_, _, _, e, _⟩, _⟩ := x; exact Heap.lt_size e
  | rng lo hi => obtain ⟨_, _, _, e⟩ := x; exact Heap.lt_size e
  | frz ob u => obtain ⟨e, _⟩ := x; exact Heap.lt_size e
  | tbl ps => exact Heap.lt_size (show h.get? a = some _ from x)
  | met f y => exact Heap.lt_size (show h.get? a = some _ from x)
  | ext φ => obtain ⟨_, ⟨_, e⟩, _⟩ := x; exact Heap.lt_size e
theorem Paired.mapP {α β : Type} {F G : α → β → Prop} : ∀ {l₁ : List α} {l₂ : List β}, Paired F l₁ l₂ → (∀ a b, F a b → G a b) → Paired G l₁ l₂
  | _, _, .nil, _ => .nil
  | _, _, .cons r t, f => .cons (f _ _ r) (Paired.mapP t f)
/-- what an object's description leans on: its own object, its own dict, the tuples -/
theorem ObjOk.stay (x : ObjOk P w H h a o) (k : ∀ b u, (b = a ∨ H b = some (.own a)) → h.get? b = some u → h'.get? b = some u)
    (ho : ∀ b, H b = some (.own a) → H' b = some (.own a)) (ht : ∀ b xs, H b = some (.tup xs) → H' b = some (.tup xs)) : ObjOk P w H' h' a o := by
  induction o with
  | lst xs => obtain ⟨z, its, n, r, e⟩ := x; exact ⟨z, its, n, r, k _ _ (.inl rfl) e⟩
  | tup xs => obtain ⟨z, its, r, ob, e, c⟩ := x; exact ⟨z, its, r, ob, k _ _ (.inl rfl) e, c⟩
  | dK kvs => obtain ⟨z, y, vs, r, ob, es, ep, e, c⟩ := x; exact ⟨z, y, vs, r, ob, es, ep, k _ _ (.inl rfl) e, c⟩
  | dT kvs =>
    obtain ⟨z, y, xs, r, ob, es, ep, e, c⟩ := x
    exact ⟨z, y, xs, Paired.mapP r fun p q z => ⟨z.1, ht _ _ z.2.1, z.2.2⟩, ob, es, ep, k _ _ (.inl rfl) e, c⟩
  | set S n => obtain ⟨ob, es, ep, t, e, c⟩ := x; exact ⟨ob, es, ep, t, k _ _ (.inl rfl) e, c⟩
  | ins C dx fs =>
    obtain ⟨d, z, ne, e, mA, ⟨od, es, ep, e2, c⟩, r⟩ := x
    exact ⟨ho _ d, z, ne, k _ _ (.inl rfl) e, mA, ⟨od, es, ep, k _ _ (.inr d) e2, c⟩, r⟩
  | own y => obtain ⟨ob, e⟩ := x; exact ⟨ob, k _ _ (.inl rfl) e⟩
  | xd fs => obtain ⟨mA, ⟨od, es, ep, e, c⟩, r⟩ := x; exact ⟨mA, ⟨od, es, ep, k _ _ (.inl rfl) e, c⟩, r⟩
  | rng lo hi => obtain ⟨t, u, v, e⟩ := x; exact ⟨t, u, v, k _ _ (.inl rfl) e⟩
  | frz ob u ih => obtain ⟨e, q⟩ := x; exact ⟨k _ _ (.inl rfl) e, ih q⟩
  | tbl ps =>
    have e : h.get? a = some { cls := .none, data := .fields ps } := x
    show h'.get? a = some { cls := .none, data := .fields ps }
    exact k a _ (.inl rfl) e
  | met f y =>
    have e : h.get? a = some (PySem.W.methodObj (.ref f) (.ref y)) := x
    show h'.get? a = some (PySem.W.methodObj (.ref f) (.ref y))
    exact k a _ (.inl rfl) e
  | ext φ => obtain ⟨p, ⟨o, e⟩, st⟩ := x; exact ⟨st _ _ p fun o q => k _ _ (.inl rfl) q, ⟨o, k _ _ (.inl rfl) e⟩, st⟩
theorem HOk.lt (x : HOk P w H h) (e : H a = some o) : a < h.objs.size := (x a o e).lt
theorem HOk.fresh (x : HOk P w H h) (e : h.objs.size ≤ a) : H a = none := by
  cases q : H a with
  | none => rfl
  | some u => exact absurd (Nat.lt_of_lt_of_le (x.lt q) e) (Nat.lt_irrefl _)
/-- every object of the heap is kept -/
theorem HOk.kept (x : HOk P w H h) (k : ∀ b u, h.get? b = some u → h'.get? b = some u) : HOk P w H h' := fun a o e =>
  (x a o e).stay (fun b u _ q => k b u q) (fun _ q => q) fun _ _ q => q
/-- a new object is laid and tracked -/
theorem HOk.laid (x : HOk P w H h) (k : ∀ b u, h.get? b = some u → h'.get? b = some u) (hp : h.objs.size ≤ a) (new : ObjOk P w (upd H a o) h' a o) : HOk P w (upd H a o) h' := fun b u e => by
  have hn := x.fresh hp
  by_cases hb : b = a
  · subst hb; rw [upd_same] at e; cases e; exact new
  · rw [upd_ne hb] at e
    exact (x b u e).stay (fun c v _ q => k c v q) (fun c q => by rw [upd_ne (ne_of_none q hn)]; exact q) fun c xs q => by rw [upd_ne (ne_of_none q hn)]; exact q
end

/-- what may be read as u: it is u, or a known u -/
def Rd (H : Hp) (a : Addr) (u : HO) : Prop := H a = some u ∨ ∃ o, H a = some (.frz o u)
theorem Rd.ok {P : Program} {w : World} {H : Hp} {h : Heap} {a : Addr} {u : HO} (r : Rd H a u) (x : HOk P w H h) : ObjOk P w H h a u := by
  rcases r with r | ⟨o, r⟩
  · exact x a u r
  · obtain ⟨_, q⟩ := x a _ r
    exact q
/-- what may be written -/
def Mut : Option HO → Prop
  | some (.lst _) => True
  | some (.dK _) => True
  | some (.dT _) => True
  | some (.set _ _) => True
  | some (.ins _ _ _) => True
  | some (.ext _) => True
  | _ => False
section
variable {P : Program} {w : World} {H : Hp} {h h' : Heap} {x e : Addr} {o' : HO}
/-- the object at e is changed: x itself, or the dict of the instance x -/
theorem HOk.write (ok : HOk P w H h) (mu : Mut (H x)) (he : e = x ∨ H e = some (.own x)) (k : ∀ b u, b ≠ e → h.get? b = some u → h'.get? b = some u) (heo : ∃ u, h'.get? e = some u)
    (new : ObjOk P w (upd H x o') h' x o') : HOk P w (upd H x o') h' := fun b u q => by
  have nown : ∀ c y, H c = some (.own y) → c ≠ x := fun c y r z => by subst z; rw [r] at mu; exact mu
  have ntup : ∀ c xs, H c = some (.tup xs) → c ≠ x := fun c xs r z => by subst z; rw [r] at mu; exact mu
  by_cases hb : b = x
  · subst hb; rw [upd_same] at q; cases q; exact new
  · rw [upd_ne hb] at q
    by_cases hbe : b = e
    · have q' : H b = some (.own x) := by
        rcases he with z | z
        · exact absurd (hbe.trans z) hb
        · rw [hbe]; exact z
      rw [q] at q'; cases q'
      obtain ⟨v, hv⟩ := heo
      exact ⟨v, by rw [hbe]; exact hv⟩
    · refine (ok b u q).stay (fun c v hc r => k c v ?_ r) (fun c r => by rw [upd_ne (nown c b r)]; exact r) fun c xs r => by rw [upd_ne (ntup c xs r)]; exact r
      rcases hc with rfl | hc
      · exact hbe
      · rintro rfl
        rcases he with z | z
        · exact nown c b hc z
        · rw [hc] at z; cases z; exact hb rfl
end

/-! ### kept unless tracked; of the frames at fs (the callers') the slots may change (an exception that passes writes there); of the records at ex (iterators) nothing is said -/
structure Un (fs ex : List Addr) (H H' : Hp) (h h' : Heap) : Prop where
  keep : ∀ b o, h.get? b = some o → H b = none → b ∉ fs → b ∉ ex → h'.get? b = some o
  slot : ∀ b o, h.get? b = some o → H b = none → b ∈ fs → b ∉ ex → ∃ sl, h'.get? b = some { o with slots := sl }
  free : ∀ b o, h.get? b = some o → H b = none → b ∉ ex → H' b = none
  there : ∀ b o, h.get? b = some o → b ∉ ex → ∃ o', h'.get? b = some o'
  tups : ∀ b xs, H b = some (.tup xs) → H' b = some (.tup xs)
  frzs : ∀ b o u, H b = some (.frz o u) → H' b = some (.frz o u)
  tbls : ∀ b ps, H b = some (.tbl ps) → ∃ more, H' b = some (.tbl (ps ++ more))
section
variable {fs fs' ex ex' : List Addr} {H H1 H2 : Hp} {h h1 h2 h' : Heap} {a x e : Addr} {o : HO}
theorem Un.any (u : Un fs ex H H1 h h1) {b : Addr} {ob : Obj} (q : h.get? b = some ob) (n : H b = none) (hx : b ∉ ex) : ∃ sl, h1.get? b = some { ob with slots := sl } := by
  by_cases hb : b ∈ fs
  · exact u.slot b ob q n hb hx
  · exact ⟨ob.slots, u.keep b ob q n hb hx⟩
theorem Un.kept (k : ∀ b u, h.get? b = some u → h'.get? b = some u) : Un fs ex H H h h' :=
  ⟨fun b ob q _ _ _ => k b ob q, fun b ob q _ _ _ => ⟨ob.slots, k b ob q⟩, fun _ _ _ n _ => n, fun b ob q _ => ⟨ob, k b ob q⟩, fun _ _ q => q, fun _ _ _ q => q, fun _ ps q => ⟨#[], by rw [q]; simp⟩⟩
theorem Un.refl : Un fs ex H H h h := Un.kept fun _ _ q => q
theorem Un.laid (k : ∀ b u, h.get? b = some u → h'.get? b = some u) (hp : h.objs.size ≤ a) (hn : H a = none) : Un fs ex H (upd H a o) h h' where
  keep := fun b u q _ _ _ => k b u q
  slot := fun b u q _ _ _ => ⟨u.slots, k b u q⟩
  free := fun b u q n _ => by rw [upd_ne (Nat.ne_of_lt (Nat.lt_of_lt_of_le (Heap.lt_size q) hp))]; exact n
  there := fun b u q _ => ⟨u, k b u q⟩
  tups := fun b xs q => by rw [upd_ne (ne_of_none q hn)]; exact q
  frzs := fun b u xs q => by rw [upd_ne (ne_of_none q hn)]; exact q
  tbls := fun b ps q => ⟨#[], by rw [upd_ne (ne_of_none q hn), q]; simp⟩
theorem Un.write (mu : Mut (H x)) (he : e = x ∨ H e = some (.own x)) (k : ∀ b u, b ≠ e → h.get? b = some u → h'.get? b = some u) (heo : ∃ u, h'.get? e = some u) : Un fs ex H (upd H x o) h h' := by
  have hx : ∀ b, H b = none → b ≠ x := fun b n z => by subst z; rw [n] at mu; exact mu
  have hb : ∀ b, H b = none → b ≠ e := fun b n z => by
    subst z
    rcases he with r | r
    · exact hx b n r
    · rw [n] at r; cases r
  have hm : ∀ b u, H b = some u → ¬ Mut (some u) → b ≠ x := fun b u q nm z => by subst z; rw [q] at mu; exact nm mu
  refine ⟨fun b u q n _ _ => k b u (hb b n) q, fun b u q n _ _ => ⟨u.slots, k b u (hb b n) q⟩, fun b u q n _ => by rw [upd_ne (hx b n)]; exact n, fun b u q _ => ?_,
    fun b xs q => by rw [upd_ne (hm b _ q fun z => z)]; exact q, fun b u xs q => by rw [upd_ne (hm b _ q fun z => z)]; exact q, fun b ps q => ⟨#[], by rw [upd_ne (hm b _ q fun z => z), q]; simp⟩⟩
  by_cases hbe : b = e
  · subst hbe; exact heo
  · exact ⟨u, k b u hbe q⟩
end

/-! ### the heap without what is tracked -/
def trk (h : Heap) (H : Hp) : List Addr := (List.range h.objs.size).filter fun a => (H a).isSome
def hidT (h : Heap) (H : Hp) : Heap := PySem.W.hideAll h (trk h H)
theorem hidT_size (h : Heap) (H : Hp) : (hidT h H).objs.size = h.objs.size := PySem.W.hideAll_size _ _
theorem hidT_get {h : Heap} {H : Hp} {b : Addr} {o : Obj} (e : h.get? b = some o) (n : H b = none) : (hidT h H).get? b = some o :=
  PySem.W.hideAll_get _ e fun hm => by
    have q : (H b).isSome = true := (List.mem_filter.mp hm).2
    rw [n] at q; simp at q
theorem of_hidT {h : Heap} {H : Hp} {b : Addr} {o : Obj} (e : (hidT h H).get? b = some o) : h.get? b = some o ∧ H b = none := by
  have e' : h.get? b = some o := PySem.W.of_hideAll (trk h H) e
  refine ⟨e', ?_⟩
  cases q : H b with
  | none => rfl
  | some x =>
    have hm : b ∈ trk h H := List.mem_filter.mpr ⟨List.mem_range.mpr (Heap.lt_size e'), by simp [q]⟩
    have z : (hidT h H).get? b = none := PySem.W.hideAll_none (trk h H) hm
    rw [z] at e; cases e

/-! ### OpenK's ledger, filled with every new object but one -/
def allNews (g h : Heap) (L : Addr) : List (Addr × Obj) := (List.range h.objs.size).filterMap fun a => if a = L ∨ (g.get? a).isSome = true then none else (h.get? a).map fun o => (a, o)
def rest (g h : Heap) (L d : Addr) : List (Addr × Obj) := (allNews g h L).filter fun p => decide (p.1 ≠ d)
end L2

namespace L2
open PySem PySem.Spec PyProof.Rows

/-- the module's facts, over the base: the heap at the law's entry without what is tracked there -/
structure Mod (K : PySem.W.Frag) (mg : Str → Option Value) (base : Heap) : Prop where
  kin : K.In base
  glob : base.Ns mainGlobals mg
  blt : ∃ mb, base.Ns builtinsNs mb ∧ ∀ x : Str, x ≠ "__name__" → mb x = bootBuiltins x
  nolimit : base.NoLimit

/-- the context: a def's body (or a comprehension's block) running. base: fixed through the whole law; s₀, H₀: the entry; outer: the frames whose slots others may change (a def's callers); stack: all frames that run;
   ex: iterators that were made ahead of the entry and are walked here (a comprehension's); fn: the names whose cells were made at the entry (a def: all; a comprehension's block: its own); calm: not within an except suite; pn: pins that every state bears; xe: what is wanted of an exception that leaves the code -/
structure Cx where
  prog : Program
  w : World
  K : PySem.W.Frag
  mg : Str → Option Value
  base : Heap
  A : Around
  N : List Str
  s₀ : Shared
  H₀ : Hp
  env : Env
  outer : List Env
  stack : List Env
  ex : List Addr
  fn : Str → Bool
  calm : Bool
  pn : List (Addr × Obj)
  xe : Value → Shared → Prop
/-- the callers' frames -/
def frs (l : List Env) : List Addr := l.filterMap (·.frame)
abbrev Cx.fs (X : Cx) : List Addr := frs X.outer

def Vis (sc : Scope) (x : Str) : Prop := sc.names.lookup x = some .local ∨ sc.names.lookup x = some .cell ∨ sc.names.lookup x = some .free
def Loc (sc : Scope) (x : Str) : Prop := sc.names.lookup x = some .local ∨ sc.names.lookup x = some .cell
def Look (env : Env) (h : Heap) (m : Str → Option Value) (x : Str) (u : Value) : Prop :=
  (env.kindOf x = some .local ∧ m x = some u) ∨ ((env.kindOf x = some .cell ∨ env.kindOf x = some .free) ∧ ∃ c, env.cells.lookup x = some c ∧ h.IsCell c (some u))

structure Cx.Ok (X : Cx) : Prop where
  mod : Mod X.K X.mg X.base
  kind : X.env.scope.kind = .function
  glob : X.env.globals = mainGlobals
  blt : X.env.builtins = builtinsNs
  above : X.s₀.heap.objs.size ≤ X.env.locals
  inj : ∀ x y c, X.env.cells.lookup x = some c → X.env.cells.lookup y = some c → x = y
  has : ∀ x, (X.env.kindOf x = some .cell ∨ X.env.kindOf x = some .free) → ∃ c, X.env.cells.lookup x = some c
  cab : ∀ x c, X.fn x = true → X.env.cells.lookup x = some c → X.s₀.heap.objs.size ≤ c
  hd : X.calm = true → X.A.handled = none
  frames : X.A.frames = some X.stack
  stk : X.stack = X.outer ∨ (X.stack = X.env :: X.outer ∧ X.env.frame = some X.env.locals)
  exf : ∀ b ∈ X.ex, b ≠ X.env.locals ∧ ∀ x c, X.env.cells.lookup x = some c → c ≠ b
  bs : ∀ b o, X.base.get? b = some o → X.s₀.heap.get? b = some o ∧ X.H₀ b = none
  bsz : X.base.objs.size ≤ X.s₀.heap.objs.size
  noex : ∀ b o, X.base.get? b = some o → b ∉ X.ex
  exfs : ∀ b ∈ X.ex, b ∉ X.fs
  funs : X.s₀.heap.FunFrames X.base X.outer
  frf : ∀ b ∈ X.fs, X.H₀ b = none

structure Inv (X : Cx) (pins : List (Addr × Obj)) (σ : List (Option V)) (H : Hp) (s : Shared) : Prop where
  ok : X.Ok
  os : s.os = X.s₀.os
  bare : AllBare s.gens
  base : Un X.fs X.ex X.H₀ H X.s₀.heap s.heap
  loc : ∃ m, s.heap.Ns X.env.locals m ∧ ∀ (i : Nat) (x : Str) (v : V), X.N[i]? = some x → σ[i]? = some (some v) → Vis X.env.scope x → ∃ u, RelV v u ∧ Look X.env s.heap m x u
  cell : ∀ x c, X.env.cells.lookup x = some c → ∃ v, s.heap.IsCell c v
  free : H X.env.locals = none
  freeC : ∀ x c, X.env.cells.lookup x = some c → H c = none
  pin : ∀ p ∈ X.pn ++ pins, s.heap.get? p.1 = some p.2 ∧ H p.1 = none ∧ p.1 ≠ X.env.locals ∧ p.1 ∉ X.fs ∧ ∀ v, p.2.data ≠ .cell v
  hok : HOk X.prog X.w H s.heap
  len : σ.length = X.N.length

section
variable {X : Cx} {pins : List (Addr × Obj)} {σ : List (Option V)} {H H' : Hp} {s : Shared} {h' : Heap}

theorem Cx.Ok.nofr (ok : X.Ok) {b : Addr} {o : Obj} (e : X.base.get? b = some o) : b ∉ X.fs := fun hb => by
  have := (ok.funs.mem hb).1
  rw [e] at this; cases this
theorem Inv.bs (I : Inv X pins σ H s) : ∀ b o, X.base.get? b = some o → s.heap.get? b = some o ∧ H b = none := fun b o e =>
  ⟨I.base.keep b o (I.ok.bs b o e).1 (I.ok.bs b o e).2 (I.ok.nofr e) (I.ok.noex b o e), I.base.free b o (I.ok.bs b o e).1 (I.ok.bs b o e).2 (I.ok.noex b o e)⟩
theorem Inv.bk (I : Inv X pins σ H s) : ∀ b o, X.base.get? b = some o → s.heap.get? b = some o := fun b o e => (I.bs b o e).1
theorem Inv.mod (I : Inv X pins σ H s) : Mod X.K X.mg X.base := I.ok.mod
theorem Inv.kIn (I : Inv X pins σ H s) : X.K.In s.heap := I.ok.mod.kin.keeps I.bk
theorem Inv.lt (I : Inv X pins σ H s) : X.env.locals < s.heap.objs.size := let ⟨_, hn, _⟩ := I.loc; hn.lt
theorem Inv.sz (I : Inv X pins σ H s) : X.s₀.heap.objs.size ≤ s.heap.objs.size := Nat.le_trans I.ok.above (Nat.le_of_lt I.lt)
theorem Inv.nofs (I : Inv X pins σ H s) {a : Addr} (h : s.heap.objs.size ≤ a) : a ∉ X.fs := fun hb => by
  obtain ⟨_, o, ho, _⟩ := I.ok.funs.mem hb
  exact absurd (Nat.lt_of_lt_of_le (Heap.lt_size ho) (Nat.le_trans I.sz h)) (Nat.lt_irrefl _)
theorem Inv.cne (I : Inv X pins σ H s) : ∀ x c, X.env.cells.lookup x = some c → c ≠ X.env.locals := fun x c e z => by
  obtain ⟨v, o, ho, hd⟩ := I.cell x c e
  obtain ⟨m, ⟨o', es, ep, ho', hd', _⟩, _⟩ := I.loc
  rw [z, ho'] at ho; cases ho; rw [hd'] at hd; cases hd
theorem Inv.funs (I : Inv X pins σ H s) : s.heap.FunFrames X.base X.outer := by
  have all : ∀ (l : List Env), (∀ b ∈ frs l, b ∈ X.fs) → X.s₀.heap.FunFrames X.base l → s.heap.FunFrames X.base l := by
    intro l
    induction l with
    | nil => intro _ _; trivial
    | cons env r ih =>
      intro hs hl
      obtain ⟨hk, ⟨L, o, hf, hn, ho, hd⟩, hr⟩ := hl
      have hL : L ∈ X.fs := hs L (by unfold frs; rw [List.filterMap_cons, hf]; exact List.mem_cons_self)
      obtain ⟨sl, e⟩ := I.base.slot L o ho (I.ok.frf L hL) hL fun z => I.ok.exfs L z hL
      exact ⟨hk, ⟨L, _, hf, hn, e, hd⟩, ih (fun b hb => hs b (by unfold frs; rw [List.filterMap_cons, hf]; exact List.mem_cons_of_mem _ hb)) hr⟩
  exact all X.outer (fun _ hb => hb) I.ok.funs

/-- the frames that run, for a call -/
theorem Inv.stack (I : Inv X pins σ H s) : s.heap.FunFrames X.base X.stack := by
  rcases I.ok.stk with e | ⟨e, hf⟩
  · rw [e]; exact I.funs
  · rw [e]
    obtain ⟨m, hn, _⟩ := I.loc
    refine .cons (by rw [I.ok.kind]; decide) hf hn ?_ I.funs
    exact Heap.get?_none_of_le (Nat.le_trans I.ok.bsz I.ok.above)
theorem Inv.stkSub (I : Inv X pins σ H s) : ∀ b ∈ frs X.stack, b ∈ X.env.locals :: X.fs := fun b hb => by
  rcases I.ok.stk with e | ⟨e, hf⟩
  · rw [e] at hb; exact List.mem_cons_of_mem _ hb
  · rw [e] at hb
    unfold frs at hb
    rw [List.filterMap_cons, hf] at hb
    exact hb
theorem Inv.stkFree (I : Inv X pins σ H s) : ∀ b ∈ frs X.stack, H b = none := fun b hb => by
  rcases List.mem_cons.mp (I.stkSub b hb) with e | hb
  · rw [e]; exact I.free
  · obtain ⟨_, o, ho, _⟩ := I.ok.funs.mem hb
    exact I.base.free b o ho (I.ok.frf b hb) fun z => I.ok.exfs b z hb

/-- THE STEP: the untracked objects but the frame and the records at ch are kept (the callers' frames up to slots), the frame's map is kept, the new abstract heap is held -/
theorem Inv.step {g' : Array GenState} {t' : Nat} {d' : Drawn} {ch : List Addr} (I : Inv X pins σ H s)
    (hch : ∀ b ∈ ch, (b ∈ X.ex ∨ X.s₀.heap.objs.size ≤ b) ∧ b ≠ X.env.locals ∧ (∀ x c, X.env.cells.lookup x = some c → c ≠ b) ∧ ∀ p ∈ X.pn ++ pins, p.1 ≠ b)
    (keep : ∀ b o, b ≠ X.env.locals → b ∉ X.fs → b ∉ ch → s.heap.get? b = some o → H b = none → h'.get? b = some o)
    (slot : ∀ b o, b ≠ X.env.locals → b ∈ X.fs → b ∉ ch → s.heap.get? b = some o → H b = none → ∃ sl, h'.get? b = some { o with slots := sl }) (free : ∀ b o, b ∉ ch → s.heap.get? b = some o → H b = none → H' b = none)
    (there : ∀ b o, b ∉ ch → s.heap.get? b = some o → ∃ o', h'.get? b = some o')
    (tups : ∀ b xs, H b = some (.tup xs) → H' b = some (.tup xs)) (frzs : ∀ b o u, H b = some (.frz o u) → H' b = some (.frz o u)) (tbls : ∀ b ps, H b = some (.tbl ps) → ∃ more, H' b = some (.tbl (ps ++ more)))
    (ns : ∀ m, s.heap.Ns X.env.locals m → h'.Ns X.env.locals m) (hok : HOk X.prog X.w H' h') (hg : AllBare g') :
    Inv X pins σ H' { s with heap := h', gens := g', drawn := d', toks := t' } := by
  have neL : ∀ b o, X.s₀.heap.get? b = some o → b ≠ X.env.locals := fun b o e => Nat.ne_of_lt (Nat.lt_of_lt_of_le (Heap.lt_size e) I.ok.above)
  have neC : ∀ b o, X.s₀.heap.get? b = some o → b ∉ X.ex → b ∉ ch := fun b o e hx hb => by
    rcases (hch b hb).1 with z | z
    · exact hx z
    · exact absurd (Nat.lt_of_lt_of_le (Heap.lt_size e) z) (Nat.lt_irrefl _)
  have cellK : ∀ x c, X.env.cells.lookup x = some c → ∀ v, s.heap.IsCell c v → h'.IsCell c v := fun x c e v ⟨o, ho, hd⟩ => by
    have nch : c ∉ ch := fun z => (hch c z).2.2.1 x c e rfl
    by_cases hc : c ∈ X.fs
    · obtain ⟨sl, q⟩ := slot c o (I.cne x c e) hc nch ho (I.freeC x c e)
      exact ⟨_, q, hd⟩
    · exact ⟨o, keep c o (I.cne x c e) hc nch ho (I.freeC x c e), hd⟩
  refine ⟨I.ok, I.os, hg, ⟨fun b o e n hb hx => ?_, fun b o e n hb hx => ?_, fun b o e n hx => ?_, fun b o e hx => ?_, fun b xs e => tups b xs (I.base.tups b xs e), fun b o xs e => frzs b o xs (I.base.frzs b o xs e), fun b ps e => ?_⟩, ?_, fun x c e => ?_, ?_, fun x c e => ?_, fun p hp => ?_, hok, I.len⟩
  · exact keep b o (neL b o e) hb (neC b o e hx) (I.base.keep b o e n hb hx) (I.base.free b o e n hx)
  · obtain ⟨sl, e1⟩ := I.base.slot b o e n hb hx
    obtain ⟨sl', e2⟩ := slot b _ (neL b o e) hb (neC b o e hx) e1 (I.base.free b o e n hx)
    exact ⟨sl', e2⟩
  · obtain ⟨o', e1⟩ := I.base.there b o e hx
    exact free b o' (neC b o e hx) e1 (I.base.free b o e n hx)
  · obtain ⟨o', e1⟩ := I.base.there b o e hx
    exact there b o' (neC b o e hx) e1
  · obtain ⟨m1, e1⟩ := I.base.tbls b ps e
    obtain ⟨m2, e2⟩ := tbls b _ e1
    exact ⟨m1 ++ m2, by rw [e2, Array.append_assoc]⟩
  · obtain ⟨m, hn, hl⟩ := I.loc
    refine ⟨m, ns m hn, fun i x v e1 e2 e3 => ?_⟩
    obtain ⟨u, r, l⟩ := hl i x v e1 e2 e3
    refine ⟨u, r, ?_⟩
    rcases l with l | ⟨k, c, e, z⟩
    · exact .inl l
    · exact .inr ⟨k, c, e, cellK x c e _ z⟩
  · obtain ⟨v, z⟩ := I.cell x c e
    exact ⟨v, cellK x c e v z⟩
  · obtain ⟨m, ⟨o, _, _, ho, _⟩, _⟩ := I.loc
    exact free _ o (fun z => (hch _ z).2.1 rfl) ho I.free
  · obtain ⟨v, o, ho, hd⟩ := I.cell x c e
    exact free c o (fun z => (hch c z).2.2.1 x c e rfl) ho (I.freeC x c e)
  · obtain ⟨e, n, ne, nf, d⟩ := I.pin p hp
    have nch : p.1 ∉ ch := fun z => (hch p.1 z).2.2.2 p hp rfl
    exact ⟨keep p.1 p.2 ne nf nch e n, free p.1 p.2 nch e n, ne, nf, d⟩
/-- .. where the frame's own object is kept too -/
theorem Inv.un {t' : Nat} (I : Inv X pins σ H s) (u : Un X.fs [] H H' s.heap h') (hok : HOk X.prog X.w H' h') : Inv X pins σ H' { s with heap := h', toks := t' } := by
  obtain ⟨m, ⟨o, es, ep, ho, r⟩, _⟩ := id I.loc
  obtain ⟨sl, hL⟩ := u.any ho I.free (by simp)
  exact I.step (g' := s.gens) (d' := s.drawn) (ch := []) (fun _ z => nomatch z) (fun b o _ hb _ e n => u.keep b o e n hb (by simp)) (fun b o _ hb _ e n => u.slot b o e n hb (by simp)) (fun b o _ e n => u.free b o e n (by simp)) (fun b o _ e => u.there b o e (by simp)) u.tups u.frzs u.tbls (fun m' hm => by
    obtain ⟨o', es', ep', ho', r'⟩ := hm
    rw [ho] at ho'; cases ho'
    exact ⟨_, es', ep', hL, r'⟩) hok I.bare
/-- behind a call (or a comprehension's block): the slots of this frame may have changed too, the records at ch may have turned -/
theorem Inv.call {g' : Array GenState} {t' : Nat} {d' : Drawn} {ch : List Addr} (I : Inv X pins σ H s) (u : Un (frs X.stack) ch H H' s.heap h') (hok : HOk X.prog X.w H' h') (hg : AllBare g')
    (hch : ∀ b ∈ ch, (b ∈ X.ex ∨ X.s₀.heap.objs.size ≤ b) ∧ b ≠ X.env.locals ∧ (∀ x c, X.env.cells.lookup x = some c → c ≠ b) ∧ ∀ p ∈ X.pn ++ pins, p.1 ≠ b) :
    Inv X pins σ H' { s with heap := h', gens := g', drawn := d', toks := t' } := by
  obtain ⟨m, ⟨o, es, ep, ho, r⟩, _⟩ := id I.loc
  obtain ⟨sl, hL⟩ := u.any ho I.free fun z => (hch _ z).2.1 rfl
  exact I.step (ch := ch) hch (fun b o hL hb hc e n => u.keep b o e n (fun z => (List.mem_cons.mp (I.stkSub b z)).elim hL hb) hc) (fun b o _ _ hc e n => u.any e n hc) (fun b o hc e n => u.free b o e n hc) (fun b o hc e => u.there b o e hc) u.tups u.frzs u.tbls (fun m' hm => by
    obtain ⟨o', es', ep', ho', r'⟩ := hm
    rw [ho] at ho'; cases ho'
    exact ⟨_, es', ep', hL, r'⟩) hok hg
/-- an untracked record of ours (an iterator) has turned -/
theorem Inv.turned {t' : Nat} {it : Addr} (I : Inv X pins σ H s) (k : ∀ b o, b ≠ it → s.heap.get? b = some o → h'.get? b = some o) (hn : H it = none) (hL : it ≠ X.env.locals)
    (h1 : it ∈ X.ex ∨ X.s₀.heap.objs.size ≤ it) (h2 : ∀ x c, X.env.cells.lookup x = some c → c ≠ it) (h3 : ∀ p ∈ X.pn ++ pins, p.1 ≠ it) : Inv X pins σ H { s with heap := h', toks := t' } := by
  have nit : ∀ b u, H b = some u → b ≠ it := fun b u e z => by rw [z, hn] at e; cases e
  refine I.step (g' := s.gens) (d' := s.drawn) (ch := [it]) (fun b hb => ?_) (fun b o _ _ hc e _ => k b o (fun z => hc (by simp [z])) e) (fun b o _ _ hc e _ => ⟨o.slots, k b o (fun z => hc (by simp [z])) e⟩) (fun _ _ _ _ n => n)
    (fun b o hc e => ⟨o, k b o (fun z => hc (by simp [z])) e⟩) (fun _ _ e => e) (fun _ _ _ e => e) (fun b ps e => ⟨#[], by rw [e]; simp⟩) (fun m hm => ?_) (fun b u e => ?_) I.bare
  · have e : b = it := by simpa using hb
    subst e
    exact ⟨h1, hL, h2, h3⟩
  · obtain ⟨o, es, ep, ho, r⟩ := hm
    exact ⟨o, es, ep, k _ o (Ne.symm hL) ho, r⟩
  · refine (I.hok b u e).stay (fun c v hc q => k c v ?_ q) (fun _ q => q) fun _ _ q => q
    rcases hc with z | z
    · rw [z]; exact nit b u e
    · exact nit c _ z
theorem Inv.tok (I : Inv X pins σ H s) (t : Nat) : Inv X pins σ H { s with toks := t } := I.un (h' := s.heap) (t' := t) Un.refl I.hok
/-- all objects kept -/
theorem Inv.kept {t' : Nat} (I : Inv X pins σ H s) (k : ∀ b u, s.heap.get? b = some u → h'.get? b = some u) : Inv X pins σ H { s with heap := h', toks := t' } := I.un (Un.kept k) (I.hok.kept k)
/-- a new object laid and tracked -/
theorem Inv.laid {a : Addr} {o : HO} {t' : Nat} (I : Inv X pins σ H s) (k : ∀ b u, s.heap.get? b = some u → h'.get? b = some u) (hp : s.heap.objs.size ≤ a) (new : ObjOk X.prog X.w (upd H a o) h' a o) :
    Inv X pins σ (upd H a o) { s with heap := h', toks := t' } := I.un (Un.laid k hp (I.hok.fresh hp)) (I.hok.laid k hp new)
/-- an object written -/
theorem Inv.write {x e : Addr} {o : HO} {t' : Nat} (I : Inv X pins σ H s) (mu : Mut (H x)) (he : e = x ∨ H e = some (.own x)) (k : ∀ b u, b ≠ e → s.heap.get? b = some u → h'.get? b = some u) (heo : ∃ u, h'.get? e = some u)
    (new : ObjOk X.prog X.w (upd H x o) h' x o) : Inv X pins σ (upd H x o) { s with heap := h', toks := t' } := I.un (Un.write mu he k heo) (I.hok.write mu he k heo new)
theorem Inv.pins_of {pins' : List (Addr × Obj)} (I : Inv X pins σ H s) (h : ∀ p ∈ pins', s.heap.get? p.1 = some p.2 ∧ H p.1 = none ∧ p.1 ≠ X.env.locals ∧ p.1 ∉ X.fs ∧ ∀ v, p.2.data ≠ .cell v) : Inv X pins' σ H s :=
  ⟨I.ok, I.os, I.bare, I.base, I.loc, I.cell, I.free, I.freeC, fun p hp => (List.mem_append.mp hp).elim (fun z => I.pin p (List.mem_append_left _ z)) (h p), I.hok, I.len⟩

theorem nodup_ix {N : List Str} (hN : N.Nodup) {i j : Nat} {x : Str} (a : N[i]? = some x) (b : N[j]? = some x) : i = j := by
  obtain ⟨h1, e1⟩ := List.getElem?_eq_some_iff.mp a
  obtain ⟨h2, e2⟩ := List.getElem?_eq_some_iff.mp b
  exact (List.getElem_inj hN).mp (e1.trans e2.symm)

/-- a name is stored; what changed -/
theorem store_ok2 {M : Model} {A : Around} {E : Value → Shared → Prop} {i : Nat} {x : Str} {v : V} {u : Value} {Q : Unit → Shared → Prop} (I : Inv X pins σ H s) (hN : X.N.Nodup) (hi : X.N[i]? = some x) (hx : Loc X.env.scope x) (r : RelV v u)
    (h : ∀ s', Inv X pins (σ.set i (some v)) H s' → (∃ a, Heap.SameBut a s.heap s'.heap ∧ (a = X.env.locals ∨ X.env.cells.lookup x = some a)) → Q () s') (hf : X.fn x = true ∨ X.env.scope.names.lookup x = some .local := by first | exact .inl rfl | exact .inr rfl | assumption) : wpAny M A (storeName X.env x u) Q E s := by
  obtain ⟨m, hn, hl⟩ := id I.loc
  have hcls : (X.env.scope.kind == .class || (X.env.scope.kind == .module && X.env.locals != X.env.globals)) = false := by rw [I.ok.kind]; rfl
  have hiσ : i < σ.length := by rw [I.len]; exact (List.getElem?_eq_some_iff.mp hi).1
  have cne := I.cne
  have tracked : ∀ {a : Addr} {h' : Heap}, (∃ o, s.heap.get? a = some o ∧ H a = none) → Heap.SameBut a s.heap h' → HOk X.prog X.w H h' := fun {a h'} ha hs b ob e => by
    obtain ⟨_, _, hfree⟩ := ha
    refine (I.hok b ob e).stay (fun c w' hc q => (hs.2 c ?_).trans q) (fun _ q => q) fun _ _ q => q
    rintro rfl
    rcases hc with rfl | hc
    · rw [hfree] at e; cases e
    · rw [hfree] at hc; cases hc
  rcases hx with hk | hk
  · refine wpAny_storeName_local hk hn (fun h' hn' hs => ?_) hcls
    obtain ⟨oL, _, _, hoL, _⟩ := id hn
    refine h _ ⟨I.ok, I.os, I.bare, ⟨fun b o e n hb hx => ?_, fun b o e n hb hx => ?_, I.base.free, fun b o e hx => ?_, I.base.tups, I.base.frzs, I.base.tbls⟩, ⟨_, hn', fun j y v' e1 e2 e3 => ?_⟩, fun y c e => ?_, I.free, I.freeC, fun p hp => ?_, tracked ⟨oL, hoL, I.free⟩ hs, by simpa using I.len⟩ ⟨_, hs, .inl rfl⟩
    · exact (hs.2 b (Nat.ne_of_lt (Nat.lt_of_lt_of_le (Heap.lt_size e) I.ok.above))).trans (I.base.keep b o e n hb hx)
    · obtain ⟨sl, e1⟩ := I.base.slot b o e n hb hx
      exact ⟨sl, (hs.2 b (Nat.ne_of_lt (Nat.lt_of_lt_of_le (Heap.lt_size e) I.ok.above))).trans e1⟩
    · obtain ⟨o', e1⟩ := I.base.there b o e hx
      exact ⟨o', (hs.2 b (Nat.ne_of_lt (Nat.lt_of_lt_of_le (Heap.lt_size e) I.ok.above))).trans e1⟩
    · by_cases hj : j = i
      · subst hj
        rw [hi] at e1; cases e1
        rw [List.getElem?_set_self hiσ] at e2
        cases e2
        exact ⟨u, r, .inl ⟨hk, by simp⟩⟩
      · rw [List.getElem?_set_ne (Ne.symm hj)] at e2
        obtain ⟨u', r', q⟩ := hl j y v' e1 e2 e3
        refine ⟨u', r', ?_⟩
        rcases q with ⟨k, e⟩ | ⟨k, c, e, z⟩
        · refine .inl ⟨k, ?_⟩
          have : y ≠ x := fun e => hj (nodup_ix hN e1 (e ▸ hi))
          simp [this, e]
        · exact .inr ⟨k, c, e, z.sameBut hs (cne y c e)⟩
    · obtain ⟨w', z⟩ := I.cell y c e
      exact ⟨w', z.sameBut hs (cne y c e)⟩
    · obtain ⟨e, n, ne, nf, d⟩ := I.pin p hp
      exact ⟨(hs.2 p.1 ne).trans e, n, ne, nf, d⟩
  · have hfn : X.fn x = true := by
      rcases hf with z | z
      · exact z
      · rw [z] at hk; cases hk
    obtain ⟨c, hc⟩ := I.ok.has x (.inl hk)
    obtain ⟨w', z⟩ := I.cell x c hc
    refine wpAny_storeName_cell I.ok.kind hk hc z (fun h' hc' hs => ?_)
    obtain ⟨oc, hoc, hocd⟩ := id z
    refine h { s with heap := h' } ⟨I.ok, I.os, I.bare, ⟨fun b o e n hb hx => ?_, fun b o e n hb hx => ?_, I.base.free, fun b o e hx => ?_, I.base.tups, I.base.frzs, I.base.tbls⟩, ⟨m, hn.sameBut hs (Ne.symm (cne x c hc)), fun j y v' e1 e2 e3 => ?_⟩, fun y c' e => ?_, I.free, I.freeC, fun p hp => ?_, tracked ⟨oc, hoc, I.freeC x c hc⟩ hs, by simpa using I.len⟩ ⟨c, hs, .inr hc⟩
    · exact (hs.2 b (Nat.ne_of_lt (Nat.lt_of_lt_of_le (Heap.lt_size e) (I.ok.cab x c hfn hc)))).trans (I.base.keep b o e n hb hx)
    · obtain ⟨sl, e1⟩ := I.base.slot b o e n hb hx
      exact ⟨sl, (hs.2 b (Nat.ne_of_lt (Nat.lt_of_lt_of_le (Heap.lt_size e) (I.ok.cab x c hfn hc)))).trans e1⟩
    · obtain ⟨o', e1⟩ := I.base.there b o e hx
      exact ⟨o', (hs.2 b (Nat.ne_of_lt (Nat.lt_of_lt_of_le (Heap.lt_size e) (I.ok.cab x c hfn hc)))).trans e1⟩
    · by_cases hj : j = i
      · subst hj
        rw [hi] at e1; cases e1
        rw [List.getElem?_set_self hiσ] at e2
        cases e2
        exact ⟨u, r, .inr ⟨.inl hk, c, hc, hc'⟩⟩
      · rw [List.getElem?_set_ne (Ne.symm hj)] at e2
        obtain ⟨u', r', q⟩ := hl j y v' e1 e2 e3
        refine ⟨u', r', ?_⟩
        rcases q with q | ⟨k, c', e, z'⟩
        · exact .inl q
        · refine .inr ⟨k, c', e, z'.sameBut hs ?_⟩
          rintro rfl
          exact hj (nodup_ix hN e1 (I.ok.inj _ _ _ e hc ▸ hi))
    · by_cases hcc : c' = c
      · subst hcc; exact ⟨_, hc'⟩
      · obtain ⟨w2, z2⟩ := I.cell y c' e
        exact ⟨w2, z2.sameBut hs hcc⟩
    · obtain ⟨e, n, ne, nf, d⟩ := I.pin p hp
      refine ⟨(hs.2 p.1 ?_).trans e, n, ne, nf, d⟩
      intro q
      rw [q, hoc] at e
      have q' : oc = p.2 := Option.some.inj e
      exact d w' (by rw [← q']; exact hocd)
theorem store_ok {M : Model} {A : Around} {E : Value → Shared → Prop} {i : Nat} {x : Str} {v : V} {u : Value} {Q : Unit → Shared → Prop} (I : Inv X pins σ H s) (hN : X.N.Nodup) (hi : X.N[i]? = some x) (hx : Loc X.env.scope x) (r : RelV v u)
    (h : ∀ s', Inv X pins (σ.set i (some v)) H s' → Q () s') (hf : X.fn x = true ∨ X.env.scope.names.lookup x = some .local := by first | exact .inl rfl | exact .inr rfl | assumption) : wpAny M A (storeName X.env x u) Q E s :=
  store_ok2 I hN hi hx r (fun s' I' _ => h s' I') hf
/-- behind a call or a block, the state as it is -/
theorem Inv.call' {s' : Shared} {ch : List Addr} (I : Inv X pins σ H s) (ho : s'.os = s.os) (u : Un (frs X.stack) ch H H' s.heap s'.heap) (hok : HOk X.prog X.w H' s'.heap) (hg : AllBare s'.gens)
    (hch : ∀ b ∈ ch, (b ∈ X.ex ∨ X.s₀.heap.objs.size ≤ b) ∧ b ≠ X.env.locals ∧ (∀ x c, X.env.cells.lookup x = some c → c ≠ b) ∧ ∀ p ∈ X.pn ++ pins, p.1 ≠ b) : Inv X pins σ H' s' := by
  obtain ⟨h', g', d', t', o'⟩ := s'
  have e : o' = s.os := ho
  subst e
  exact I.call (g' := g') (t' := t') (d' := d') u hok hg hch
end

/-! ### the judgements -/
/-- an exception: its class, its own dict's address (where it has one), the abstract heap behind it -/
abbrev XK := Value → Option Addr → Hp → Prop
abbrev St := List (Option V)
abbrev VK := V → Hp → Prop
/-- an expression's reading; a test's; an argument list's -/
abbrev TE := St → Hp → VK → Prop
abbrev TT := St → Hp → (Bool → Hp → Prop) → Prop
abbrev TA := St → Hp → (List V → Hp → Prop) → Prop
/-- what is wanted behind a statement -/
structure Ends where
  nx : St → Hp → Prop
  rt : VK
  bk : St → Hp → Prop := fun _ _ => False
  ct : St → Hp → Prop := fun _ _ => False
abbrev TS := Ends → St → Hp → Prop

def EP (X : Cx) (pins : List (Addr × Obj)) (σ : St) (Q : VK) (u : Value) (s' : Shared) : Prop := ∃ v H', Inv X pins σ H' s' ∧ RelV v u ∧ Q v H'
def TP (X : Cx) (pins : List (Addr × Obj)) (σ : St) (Q : Bool → Hp → Prop) (b : Bool) (s' : Shared) : Prop := ∃ H', Inv X pins σ H' s' ∧ Q b H'
def AP (X : Cx) (pins : List (Addr × Obj)) (σ : St) (Q : List V → Hp → Prop) (us : List Value) (s' : Shared) : Prop := ∃ vs H', Inv X pins σ H' s' ∧ Vals vs us ∧ Q vs H'
def SP (X : Cx) (pins : List (Addr × Obj)) (D : Ends) (f : Flow) (s' : Shared) : Prop :=
  match f with
  | .next => ∃ σ' H', Inv X pins σ' H' s' ∧ D.nx σ' H'
  | .brk => ∃ σ' H', Inv X pins σ' H' s' ∧ D.bk σ' H'
  | .cont => ∃ σ' H', Inv X pins σ' H' s' ∧ D.ct σ' H'
  | .ret u => ∃ v σ' H', Inv X pins σ' H' s' ∧ RelV v u ∧ D.rt v H'

def PE (X : Cx) (e : Expr) (t : TE) : Prop :=
  ∀ (pins : List (Addr × Obj)) (s : Shared) (σ : St) (H : Hp) (Q : VK), Inv X pins σ H s → t σ H Q → wpAny (model X.prog X.w) X.A (eval e X.env) (EP X pins σ Q) X.xe s
def PT (X : Cx) (e : Expr) (t : TT) : Prop :=
  ∀ (pins : List (Addr × Obj)) (s : Shared) (σ : St) (H : Hp) (Q : Bool → Hp → Prop), Inv X pins σ H s → t σ H Q → wpAny (model X.prog X.w) X.A (isTrue e X.env (eval e X.env)) (TP X pins σ Q) X.xe s
/-- a test whatever its 'whole' is (and, or) -/
def PW (X : Cx) (e : Expr) (t : TT) : Prop :=
  ∀ (whole : Sem Value) (pins : List (Addr × Obj)) (s : Shared) (σ : St) (H : Hp) (Q : Bool → Hp → Prop), Inv X pins σ H s → t σ H Q → wpAny (model X.prog X.w) X.A (isTrue e X.env whole) (TP X pins σ Q) X.xe s
/-- an argument list (no star), from the left -/
def PA (X : Cx) (es : List Expr) (t : TA) : Prop :=
  ∀ (pos : Pos) (pins : List (Addr × Obj)) (s : Shared) (σ : St) (H : Hp) (Q : List V → Hp → Prop), Inv X pins σ H s → t σ H Q → wpAny (model X.prog X.w) X.A (spliced (backTo pos (starEach es X.env))) (AP X pins σ Q) X.xe s
def PS (X : Cx) (st : Stmt) (t : TS) : Prop :=
  ∀ (pins : List (Addr × Obj)) (s : Shared) (σ : St) (H : Hp) (D : Ends), Inv X pins σ H s → t D σ H → wpAny (model X.prog X.w) X.A (exec st X.env) (SP X pins D) X.xe s
def PSs (X : Cx) (st : List Stmt) (t : TS) : Prop :=
  ∀ (pins : List (Addr × Obj)) (s : Shared) (σ : St) (H : Hp) (D : Ends), Inv X pins σ H s → t D σ H → wpAny (model X.prog X.w) X.A (execs st X.env) (SP X pins D) X.xe s
/-- weaken the end -/
theorem thn {α : Type} {t : Sem α} {Q Q' : α → Shared → Prop} {M : Model} {A : Around} {E : Value → Shared → Prop} {s : Shared} (h : wpAny M A t Q E s) (hQ : ∀ a s, Q a s → Q' a s) : wpAny M A t Q' E s := wpAny_mono h hQ fun _ _ x => x
end L2

namespace L2
open PySem PySem.Spec PyProof.Rows
section
variable {X : Cx}

/-! ### names and constants -/
def tVar (i : Nat) : TE := fun σ H Q => ∃ v, σ[i]? = some (some v) ∧ Q v H
def tC (v : V) : TE := fun _ H Q => Q v H
theorem pe_var {i : Nat} {x : Str} {pos : Pos} (hN : X.N[i]? = some x) (hv : Vis X.env.scope x) (hd : (x == ("__debug__" : Str)) = false := by decide) (hcd : (x == ("__classdict__" : Str)) = false := by decide) : PE X (.Name x pos) (tVar i) := by
  intro pins s σ H Q I h
  obtain ⟨v, e, h⟩ := h
  obtain ⟨m, hn, hl⟩ := I.loc
  obtain ⟨u, r, l⟩ := hl i x v hN e hv
  have fin : EP X pins σ Q u s := ⟨v, H, I, r, h⟩
  rcases l with ⟨hk, hm⟩ | ⟨hk, c, hc, hcell⟩
  · exact wpAny_Name (wpAny_loadName_local I.ok.kind hk hn hm fin) hd
  · rcases hk with hk | hk
    · exact wpAny_Name (wpAny_loadName_cell I.ok.kind hk hc hcell fin) hd
    · exact wpAny_Name (wpAny_loadName_free I.ok.kind hk hc hcell fin hcd) hd
theorem pe_int {i j pos} : PE X (.Constant (.int i) j pos) (tC (.int i)) := fun _ _ _ H _ I h => wpAny_Constant_int ⟨.int i, H, I.tok _, ⟨_, rfl⟩, h⟩
theorem pe_bl {b j pos} : PE X (.Constant (.bool b) j pos) (tC (.bl b)) := fun _ _ _ H _ I h => Constant_bool ⟨.bl b, H, I, rfl, h⟩
theorem pe_non {j pos} : PE X (.Constant .none j pos) (tC .non) := fun _ _ _ H _ I h => Constant_none ⟨.non, H, I, rfl, h⟩
theorem pe_str {x j pos} : PE X (.Constant (.str x) j pos) (tC (.str x)) := fun _ _ _ H _ I h => Calls.Constant_str ⟨.str x, H, I.tok _, ⟨_, rfl⟩, h⟩

/-- a global name of the def -/
def Gl (X : Cx) (x : Str) : Prop := X.env.kindOf x = some .globalImplicit
theorem ld_glob {E : Value → Shared → Prop} {pins : List (Addr × Obj)} {s : Shared} {σ : St} {H : Hp} {x : Str} {u : Value} {pos : Pos} {Q : Value → Shared → Prop} (I : Inv X pins σ H s) (hg : Gl X x) (hm : X.mg x = some u) (h : Q u s)
    (hd : (x == ("__debug__" : Str)) = false := by decide) : wpAny (model X.prog X.w) X.A (eval (.Name x pos) X.env) Q E s :=
  Calls.Name_function_global I.ok.kind hg (Calls.loadGlobal_global (by rw [I.ok.glob]; exact I.mod.glob.keeps I.bk) hm h) hd
theorem ld_blt {E : Value → Shared → Prop} {pins : List (Addr × Obj)} {s : Shared} {σ : St} {H : Hp} {x : Str} {u : Value} {pos : Pos} {Q : Value → Shared → Prop} (I : Inv X pins σ H s) (hg : Gl X x) (hm : X.mg x = none) (hv : bootBuiltins x = some u) (h : Q u s)
    (hn : x ≠ "__name__" := by decide) (hd : (x == ("__debug__" : Str)) = false := by decide) : wpAny (model X.prog X.w) X.A (eval (.Name x pos) X.env) Q E s := by
  obtain ⟨mb, h1, h2⟩ := I.mod.blt
  exact Calls.Name_function_global I.ok.kind hg (Calls.loadGlobal_builtin (by rw [I.ok.glob]; exact I.mod.glob.keeps I.bk) hm (by rw [I.ok.blt]; exact h1.keeps I.bk) ((h2 x hn).trans hv) h) hd
theorem pe_bltn {x : Str} {v : V} {u : Value} {pos : Pos} (hg : Gl X x) (hm : X.mg x = none) (hv : bootBuiltins x = some u) (r : RelV v u) (hn : x ≠ "__name__" := by decide) (hd : (x == ("__debug__" : Str)) = false := by decide) : PE X (.Name x pos) (tC v) :=
  fun _ _ _ H _ I h => ld_blt I hg hm hv ⟨v, H, I, r, h⟩ hn hd

/-! ### arithmetic -/
/-- two ints -/
def t2I (ta tb : TE) (k : Int → Int → Hp → Prop) : St → Hp → Prop := fun σ H => ta σ H fun x H1 => tb σ H1 fun y H2 => ∃ i j, x = .int i ∧ y = .int j ∧ k i j H2
def tAdd (ta tb : TE) : TE := fun σ H Q => t2I ta tb (fun i j H2 => Q (.int (i + j)) H2) σ H
def tSub (ta tb : TE) : TE := fun σ H Q => t2I ta tb (fun i j H2 => Q (.int (i - j)) H2) σ H
/-- the left factor below 2^64 -/
def tMul (ta tb : TE) : TE := fun σ H Q => t2I ta tb (fun i j H2 => (-(2 ^ 64) < i ∧ i < 2 ^ 64) ∧ Q (.int (i * j)) H2) σ H
variable {a b : Expr} {ta tb : TE} {pos : Pos}
/-! ### comparisons -/
def PC (X : Cx) (op : CmpOp) (a b : Expr) (t : TE) : Prop :=
  ∀ (pins : List (Addr × Obj)) (s : Shared) (σ : St) (H : Hp) (Q : VK), Inv X pins σ H s → t σ H Q →
    wpAny (model X.prog X.w) X.A (eval a X.env) (fun v s₁ => wpAny (model X.prog X.w) X.A (eval b X.env) (fun u s₂ => wpAny (model X.prog X.w) X.A (compareOp op v u) (EP X pins σ Q) X.xe s₂) X.xe s₁) X.xe s
def tCmp (p : Int → Int → Bool) (ta tb : TE) : TE := fun σ H Q => t2I ta tb (fun i j H2 => Q (.bl (p i j)) H2) σ H
abbrev tLt : TE → TE → TE := tCmp fun i j => decide (i < j)
abbrev tLe : TE → TE → TE := tCmp fun i j => decide (i ≤ j)
abbrev tGt : TE → TE → TE := tCmp fun i j => decide (j < i)
abbrev tGe : TE → TE → TE := tCmp fun i j => decide (j ≤ i)
abbrev tEqI : TE → TE → TE := tCmp fun i j => decide (i = j)
abbrev tNeI : TE → TE → TE := tCmp fun i j => !decide (i = j)
/-- is None -/
def tIsN (ta : TE) : TE := fun σ H Q => ta σ H fun x H1 => Q (.bl (decide (x = .non))) H1
def tNotN (ta : TE) : TE := fun σ H Q => ta σ H fun x H1 => Q (.bl (!decide (x = .non))) H1
/-- a comparison as a value, as a test -/
def tB (t : TE) : TT := fun σ H Q => t σ H fun x H1 => ∃ c, x = .bl c ∧ Q c H1
/-- an expression whose value is a bool, as a test -/
theorem pt_val {e : Expr} {t : TE} (h : PE X e t) (he : ∀ whole, isTrue e X.env whole = (do let v ← whole; standAt e.pos; holding [v] (truthy v)) := by intro _; rfl) : PT X e (tB t) := by
  intro pins s σ H Q I hw
  refine isTrue_plain (thn (h pins s σ H _ I hw) fun v s1 ⟨x, H1, I1, r1, q1⟩ => ?_) (he _)
  obtain ⟨d, rfl, q⟩ := q1
  cases r1
  exact wpAny_truthy_bool ⟨H1, I1, q⟩

/-! ### and, or, not -/
variable {tA tB' : TT} {rest : List Expr}
def tAnd (t u : TT) : TT := fun σ H Q => t σ H fun c H1 => if c = true then u σ H1 Q else Q false H1
def tOr (t u : TT) : TT := fun σ H Q => t σ H fun c H1 => if c = true then Q true H1 else u σ H1 Q
def tNot (t : TT) : TT := fun σ H Q => t σ H fun c H1 => Q (!c) H1
theorem pw_or1 (ha : PT X a tA) : PW X (.BoolOp .Or [a] pos) tA := by
  intro wh pins s σ H Q I h
  refine isTrue_or (thn (ha pins s σ H Q I h) fun c s1 e => ?_)
  cases c with
  | false => exact isTrue_or_nil e
  | true => exact e
theorem pw_or (ha : PT X a tA) (hb : PW X (.BoolOp .Or (b :: rest) pos) tB') : PW X (.BoolOp .Or (a :: b :: rest) pos) (tOr tA tB') := by
  intro wh pins s σ H Q I h
  refine isTrue_or (thn (ha pins s σ H _ I h) fun c s1 ⟨H1, I1, q1⟩ => ?_)
  cases c with
  | true => exact ⟨H1, I1, q1⟩
  | false => exact hb wh pins s1 σ H1 Q I1 q1
theorem pt_not (ha : PT X a tA) : PT X (.UnaryOp .Not a pos) (tNot tA) := by
  intro pins s σ H Q I h
  exact isTrue_not (ha pins s σ H (fun c H1 => Q (!c) H1) I h)
/-- .. as values (bools) -/
def tAndV (ta tb : TE) : TE := fun σ H Q => ta σ H fun x H1 => ∃ c, x = .bl c ∧ if c = true then tb σ H1 Q else Q (.bl false) H1
def tOrV (ta tb : TE) : TE := fun σ H Q => ta σ H fun x H1 => ∃ c, x = .bl c ∧ if c = true then Q (.bl true) H1 else tb σ H1 Q
def tNotV (ta : TE) : TE := fun σ H Q => ta σ H fun x H1 => ∃ c, x = .bl c ∧ Q (.bl (!c)) H1
theorem pe_one {op} {t : TE} (h : PE X a t) : PE X (.BoolOp op [a] pos) t := fun pins s σ H Q I hw => BoolOp_one (h pins s σ H Q I hw)
theorem pe_and (ha : PE X a ta) (hb : PE X (.BoolOp .And (b :: rest) pos) tb) : PE X (.BoolOp .And (a :: b :: rest) pos) (tAndV ta tb) := by
  intro pins s σ H Q I h
  refine BoolOp_and (thn (ha pins s σ H _ I h) fun v s1 ⟨x, H1, I1, r1, q1⟩ => ?_)
  obtain ⟨c, rfl, q1⟩ := q1
  cases r1
  refine wpAny_truthy_bool ?_
  cases c with
  | true => exact hb pins s1 σ H1 Q I1 q1
  | false => exact ⟨.bl false, H1, I1, rfl, q1⟩
/-- a if t else b -/
def tIf (t : TT) (ta tb : TE) : TE := fun σ H Q => t σ H fun c H1 => if c = true then ta σ H1 Q else tb σ H1 Q
end
end L2

namespace L2
open PySem PySem.Spec PyProof.Rows

/-! ### a list, a tuple that is read: tracked, frozen, or an object of the module -/
def SqL (K : PySem.W.Frag) (H : Hp) (a : Addr) (xs : List V) : Prop :=
  Rd H a (.lst xs) ∨
    ∃ (o : Obj) (its : Array Value) (n : Nat), K.lookup a = some o ∧ o.cls = .type "list" ∧ o.dict = none ∧ o.data = .seq its n ∧ its.size ≤ sizeLine ∧ Vals xs its.toList
def SqT (K : PySem.W.Frag) (H : Hp) (a : Addr) (xs : List V) : Prop :=
  Rd H a (.tup xs) ∨
    ∃ (o : Obj) (its : Array Value) (n : Nat), K.lookup a = some o ∧ o.cls = .type "tuple" ∧ o.data = .seq its n ∧ its.size ≤ sizeLine ∧ Vals xs its.toList
def absV : Value → Option V
  | .none => some .non
  | .bool b => some (.bl b)
  | .int i _ => some (.int i)
  | .str x _ => some (.str x)
  | .bytes b _ => some (.byt b)
  | .float b _ => some (.flt b)
  | .ref a => some (.ref a)
  | .type n => some (.ty n)
  | _ => none
theorem RelV.abs {x : V} {u : Value} (r : RelV x u) : absV u = some x := by
  cases x with
  | non => cases r; rfl
  | bl _ => cases r; rfl
  | int _ => obtain ⟨t, rfl⟩ := r; rfl
  | str _ => obtain ⟨t, rfl⟩ := r; rfl
  | byt _ => obtain ⟨t, rfl⟩ := r; rfl
  | flt _ => obtain ⟨t, rfl⟩ := r; rfl
  | ref _ => cases r; rfl
  | ty _ => cases r; rfl
theorem RelV.inj {x y : V} {u : Value} (r : RelV x u) (q : RelV y u) : x = y := Option.some.inj (r.abs.symm.trans q.abs)
theorem Vals.inj : ∀ {xs ys : List V} {us : List Value}, Vals xs us → Vals ys us → xs = ys
  | _, _, _, .nil, .nil => rfl
  | _, _, _, .cons r t, .cons r' t' => by rw [r.inj r', Vals.inj t t']
section
variable {X : Cx} {pins : List (Addr × Obj)} {σ : St} {H : Hp} {s : Shared} {a : Addr} {xs ys : List V}
theorem SqL.of {K : PySem.W.Frag} (h : H a = some (.lst xs)) : SqL K H a xs := .inl (.inl h)
theorem SqT.of {K : PySem.W.Frag} (h : H a = some (.tup xs)) : SqT K H a xs := .inl (.inl h)
theorem Inv.list (I : Inv X pins σ H s) (h : SqL X.K H a xs) : ∃ its : List Value, Vals xs its ∧ PlainL s.heap a its.toArray ∧ xs.length ≤ sizeLine := by
  rcases h with h | ⟨o, its, n, hk, hc, hd, hs, hz, r⟩
  · obtain ⟨z, its, n, r, e⟩ := h.ok I.hok
    exact ⟨its, r, ⟨_, n, e, rfl, rfl, rfl⟩, z⟩
  · refine ⟨its.toList, r, ⟨o, n, I.kIn a o hk, hc, hd, by simpa using hs⟩, ?_⟩
    have e := r.length
    simp only [Array.length_toList] at e
    omega
theorem Inv.tuple (I : Inv X pins σ H s) (h : SqT X.K H a xs) : ∃ its : List Value, Vals xs its ∧ IsTup s.heap a its.toArray ∧ xs.length ≤ sizeLine := by
  rcases h with h | ⟨o, its, n, hk, hc, hs, hz, r⟩
  · obtain ⟨z, its, r, p⟩ := h.ok I.hok
    exact ⟨its, r, p, z⟩
  · refine ⟨its.toList, r, ⟨o, I.kIn a o hk, hc, n, by simpa using hs⟩, ?_⟩
    have e := r.length
    simp only [Array.length_toList] at e
    omega
theorem Inv.list_inj (I : Inv X pins σ H s) (h : SqL X.K H a xs) (h' : SqL X.K H a ys) : xs = ys := by
  obtain ⟨its, r, ⟨o, n, e, _, _, d⟩, _⟩ := I.list h
  obtain ⟨its', r', ⟨o', n', e', _, _, d'⟩, _⟩ := I.list h'
  rw [e] at e'; cases e'
  rw [d] at d'
  injection d' with d1 _
  have : its = its' := by simpa using congrArg Array.toList d1
  subst this
  exact r.inj r'
theorem Inv.tuple_inj (I : Inv X pins σ H s) (h : SqT X.K H a xs) (h' : SqT X.K H a ys) : xs = ys := by
  obtain ⟨its, r, ⟨o, e, _, n, d⟩, _⟩ := I.tuple h
  obtain ⟨its', r', ⟨o', e', _, n', d'⟩, _⟩ := I.tuple h'
  rw [e] at e'; cases e'
  rw [d] at d'
  injection d' with d1 _
  have : its = its' := by simpa using congrArg Array.toList d1
  subst this
  exact r.inj r'
end

/-! ### another wish about exceptions -/
abbrev Cx.wish (X : Cx) (E : Value → Shared → Prop) : Cx := { X with xe := E }
/-- no exception leaves -/
abbrev Cx.nox (X : Cx) : Cx := X.wish fun _ _ => False
section
variable {X : Cx} {pins : List (Addr × Obj)} {σ : St} {H : Hp} {s : Shared} {E : Value → Shared → Prop}
end

/-! ### blocks and small statements -/
section
variable {X : Cx} {st : Stmt} {rest : List Stmt} {t u : TS} {e : Expr} {te : TE} {pos : Pos}
def tNext : TS := fun D σ H => D.nx σ H
def tSeq (t u : TS) : TS := fun D σ H => t { D with nx := u D } σ H
theorem pss_nil : PSs X [] tNext := fun _ _ σ H _ I h => wpAny_execs_nil ⟨σ, H, I, h⟩
theorem pss_cons (h1 : PS X st t) (h2 : PSs X rest u) : PSs X (st :: rest) (tSeq t u) := by
  intro pins s σ H D I h
  refine wpAny_execs_cons (thn (h1 pins s σ H { D with nx := u D } I h) fun f s1 q => ?_)
  cases f with
  | next =>
    obtain ⟨σ', H', I', q⟩ := q
    exact h2 pins s1 σ' H' D I' q
  | ret v => exact q
  | brk => exact q
  | cont => exact q
theorem pss_one (h1 : PS X st t) : PSs X [st] t := by
  intro pins s σ H D I h
  refine wpAny_execs_cons (thn (h1 pins s σ H D I h) fun f s1 q => ?_)
  cases f with
  | next => exact wpAny_execs_nil q
  | ret v => exact q
  | brk => exact q
  | cont => exact q
def tBreak : TS := fun D σ H => D.bk σ H
def tCont : TS := fun D σ H => D.ct σ H
theorem ps_continue : PS X (.Continue pos) tCont := fun _ _ σ H _ I h => wpAny_Continue ⟨σ, H, I, h⟩
/-- in a def's body nothing is shown -/
theorem Inv.quiet {pins : List (Addr × Obj)} {σ : St} {H : Hp} {s : Shared} (I : Inv X pins σ H s) : interactive X.env = false := by simp [interactive, I.ok.kind]
/-- an expression whose value is dropped -/
def tDrop (te : TE) : TS := fun D σ H => te σ H fun _ H1 => D.nx σ H1
theorem ps_expr (he : PE X e te) (hs : swapsWith e none pos.line X.env = pure false := by rfl) : PS X (.Expr e pos) (tDrop te) := by
  intro pins s σ H D I h
  exact wpAny_Expr_any (thn (he pins s σ H _ I h) fun v s1 ⟨x, H1, I1, r1, q1⟩ => ⟨σ, H1, I1, q1⟩) I.quiet hs
def tRet (te : TE) : TS := fun D σ H => te σ H D.rt
theorem ps_ret (he : PE X e te) : PS X (.Return (some e) pos) (tRet te) := by
  intro pins s σ H D I h
  exact wpAny_Return_some (thn (he pins s σ H _ I h) fun v s1 ⟨x, H1, I1, r1, q1⟩ => ⟨x, σ, H1, I1, r1, q1⟩)
def tRetN : TS := fun D _ H => D.rt .non H
def tIfS (c : TT) (t u : TS) : TS := fun D σ H => c σ H fun b H1 => if b = true then t D σ H1 else u D σ H1
theorem ps_if {c : Expr} {a b : List Stmt} {tc : TT} (hc : PT X c tc) (ha : PSs X a t) (hb : PSs X b u) : PS X (.If c a b pos) (tIfS tc t u) := by
  intro pins s σ H D I h
  refine wpAny_If (thn (hc pins s σ H _ I h) fun d s1 ⟨H1, I1, q1⟩ => ?_)
  cases d with
  | true => exact ha pins s1 σ H1 D I1 q1
  | false => exact hb pins s1 σ H1 D I1 q1
/-- code that the proof never comes to -/
def tNever : TS := fun _ _ _ => False
end

/-! ### targets -/
abbrev TG := V → St → Hp → (St → Hp → Prop) → Prop
abbrev TGs := List V → St → Hp → (St → Hp → Prop) → Prop
def PG (X : Cx) (target : Expr) (t : TG) : Prop :=
  ∀ (pins : List (Addr × Obj)) (s : Shared) (σ : St) (H : Hp) (v : V) (u : Value) (Q : St → Hp → Prop), Inv X pins σ H s → RelV v u → t v σ H Q →
    wpAny (model X.prog X.w) X.A (assign target X.env u) (fun _ s' => ∃ σ' H', Inv X pins σ' H' s' ∧ Q σ' H') X.xe s
/-- several targets, one after another -/
def PGs (X : Cx) (ts : List Expr) (t : TGs) : Prop :=
  ∀ (pins : List (Addr × Obj)) (s : Shared) (σ : St) (H : Hp) (vs : List V) (us : List Value) (Q : St → Hp → Prop), Inv X pins σ H s → Vals vs us → t vs σ H Q →
    wpAny (model X.prog X.w) X.A (assignInOrder ((assignEach ts X.env).map (·.2)) us) (fun _ s' => ∃ σ' H', Inv X pins σ' H' s' ∧ Q σ' H') X.xe s
/-- o[i] = v, by values -/
abbrev TSet := V → V → V → Hp → (Hp → Prop) → Prop
def PSet (X : Cx) (t : TSet) : Prop :=
  ∀ (pins : List (Addr × Obj)) (s : Shared) (σ : St) (H : Hp) (o i v : V) (ov iv u : Value) (Q : Hp → Prop), Inv X pins σ H s → RelV o ov → RelV i iv → RelV v u → t o i v H Q →
    wpAny (model X.prog X.w) X.A (setItem ov iv u) (fun _ s' => ∃ H', Inv X pins σ H' s' ∧ Q H') X.xe s
/-- a op= b, by values -/
abbrev TIp := V → V → Hp → VK → Prop
def PIp (X : Cx) (op : Operator) (t : TIp) : Prop :=
  ∀ (pins : List (Addr × Obj)) (s : Shared) (σ : St) (H : Hp) (x y : V) (v u : Value) (Q : VK), Inv X pins σ H s → RelV x v → RelV y u → t x y H Q →
    wpAny (model X.prog X.w) X.A (inplaceOp op v u) (EP X pins σ Q) X.xe s
section
variable {X : Cx} {pos : Pos}
def gName (i : Nat) : TG := fun v σ H Q => Q (σ.set i (some v)) H
theorem pg_name {i : Nat} {x : Str} (hN : X.N.Nodup) (hi : X.N[i]? = some x) (hx : Loc X.env.scope x) (hf : X.fn x = true ∨ X.env.scope.names.lookup x = some .local := by first | exact .inl rfl | exact .inr rfl | assumption) : PG X (.Name x pos) (gName i) := by
  intro pins s σ H v u Q I r h
  exact wpAny_assign_Name (store_ok I hN hi hx r (fun s' I' => ⟨_, H, I', h⟩) hf)
def gNil : TGs := fun vs σ H Q => vs = [] ∧ Q σ H
def gCons (t : TG) (u : TGs) : TGs := fun vs σ H Q => ∃ v r, vs = v :: r ∧ t v σ H fun σ' H' => u r σ' H' Q
theorem pgs_nil : PGs X [] gNil := by
  intro pins s σ H vs us Q I r h
  obtain ⟨e, h⟩ := h
  subst e
  cases r
  exact assignInOrder_nil ⟨σ, H, I, h⟩
theorem pgs_cons {e : Expr} {es : List Expr} {t : TG} {u : TGs} (h1 : PG X e t) (h2 : PGs X es u)
    (hs : (assignEach (e :: es) X.env).map (·.2) = assign e X.env :: (assignEach es X.env).map (·.2) := by rfl) : PGs X (e :: es) (gCons t u) := by
  intro pins s σ H vs us Q I r h
  obtain ⟨v, vr, e1, h⟩ := h
  subst e1
  cases r with
  | cons r rr =>
    rw [hs]
    refine assignInOrder_cons (thn (h1 pins s σ H _ _ _ I r h) fun _ s1 ⟨σ1, H1, I1, q1⟩ => ?_)
    exact h2 pins s1 σ1 H1 _ _ Q I1 rr q1
/-- (a, b, ..) = a tuple of that length -/
def gTup (K : PySem.W.Frag) (n : Nat) (t : TGs) : TG := fun v σ H Q => ∃ a xs, v = .ref a ∧ SqT K H a xs ∧ xs.length = n ∧ t xs σ H Q
theorem pg_tup {es : List Expr} {k : Nat} {t : TGs} {n : Nat} (hc : X.calm = true) (h : PGs X es t)
    (hn : (assignEach es X.env).length = n := by rfl) (hst : (assignEach es X.env).findIdx? (·.1) = none := by rfl) : PG X (.Tuple es k pos) (gTup X.K n t) := by
  intro pins s σ H v u Q I r hw
  obtain ⟨a, xs, e1, hq, hl, hw⟩ := hw
  subst e1
  cases r
  obtain ⟨its, rv, ht, hz⟩ := I.tuple hq
  refine assign_Tuple_tuple (I.ok.hd hc) ht (by simp [hn, ← hl, rv.length]) hst fun h' hx => ?_
  have I1 : Inv X pins σ H { s with heap := h' } := I.kept (t' := s.toks) fun b o e => hx b o (Nat.ne_of_lt (Heap.lt_size e)) e
  exact h pins _ σ H xs _ Q I1 (by simpa using rv) hw
/-- o[i] = .. -/
def gSub (to ti : TE) (t : TSet) : TG := fun v σ H Q => to σ H fun o H1 => ti σ H1 fun i H2 => t o i v H2 fun H3 => Q σ H3
theorem pg_sub {o i : Expr} {to ti : TE} {t : TSet} (ho : PE X o to) (hi : PE X i ti) (hs : PSet X t)
    (ha : ∀ v, assign (.Subscript o i pos) X.env v = (do
      let ov ← holding [v] (eval o X.env)
      let iv ← holding [v, ov] (eval i X.env)
      standAt pos
      holding [v, ov, iv] (setItem ov iv v)
      release [v, ov, iv] []) := by intro _; rfl) : PG X (.Subscript o i pos) (gSub to ti t) := by
  intro pins s σ H v u Q I r h
  rw [ha]
  refine wpAny_bind (wpAny_holding (thn (ho pins s σ H _ I h) fun ov s1 ⟨x, H1, I1, r1, q1⟩ => ?_))
  refine wpAny_bind (wpAny_holding (thn (hi pins s1 σ H1 _ I1 q1) fun iv s2 ⟨y, H2, I2, r2, q2⟩ => ?_))
  refine wpAny_bind (wpAny_standAt (wpAny_bind (wpAny_holding (thn (hs pins s2 σ H2 x y v ov iv u _ I2 r1 r2 r q2) fun _ s3 ⟨H3, I3, q3⟩ => ?_))))
  exact wpAny_release ⟨σ, H3, I3, q3⟩
/-- target = value -/
def tAsg (te : TE) (g : TG) : TS := fun D σ H => te σ H fun x H1 => g x σ H1 D.nx
theorem ps_asg {tg e : Expr} {te : TE} {g : TG} (he : PE X e te) (hg : PG X tg g) (hs : swapsWithSole [tg] e pos.line X.env = pure false := by rfl) (hw : swappedStores [tg] e X.env = pure none := by rfl)
    (h1 : (assignEach [tg] X.env).map (·.2) = [assign tg X.env] := by rfl) : PS X (.Assign [tg] e pos) (tAsg te g) := by
  intro pins s σ H D I h
  refine wpAny_Assign_stores (thn (he pins s σ H _ I h) fun v s1 ⟨x, H1, I1, r1, q1⟩ => ?_) hs hw
  rw [h1]
  exact thn (hg pins s1 σ H1 x v _ I1 r1 q1) fun _ s2 q => q
/-- name = value -/
theorem ps_set {i : Nat} {x : Str} {e : Expr} {te : TE} {pos' : Pos} (hN : X.N.Nodup) (hi : X.N[i]? = some x) (hx : Loc X.env.scope x) (he : PE X e te) (hs : swapsWith e (some (.Name x pos')) pos.line X.env = pure false := by rfl) (hf : X.fn x = true ∨ X.env.scope.names.lookup x = some .local := by first | exact .inl rfl | exact .inr rfl | assumption) :
    PS X (.Assign [.Name x pos'] e pos) (tAsg te (gName i)) := by
  intro pins s σ H D I h
  refine wpAny_Assign_Name (thn (he pins s σ H _ I h) fun v s1 ⟨y, H1, I1, r1, q1⟩ => ?_) hs
  exact store_ok I1 hN hi hx r1 (fun s2 I2 => ⟨_, H1, I2, q1⟩) hf
/-- a, b = x, y with plain local names: stored from the right; the pair itself is not tracked (the opening rows as in PyProof/Rows/TupAssign.lean:23) -/
def tPar (i j : Nat) (ta : TA) : TS := fun D σ H => ta σ H fun vs H1 => ∃ v w, vs = [v, w] ∧ D.nx ((σ.set i (some v)).set j (some w)) H1
theorem ps_par {i j : Nat} {x y : Str} {a b : Expr} {ta : TA} {px py pt : Pos} {kt k2 pt2} (hc : X.calm = true) (hN : X.N.Nodup) (hi : X.N[i]? = some x) (hj : X.N[j]? = some y) (hij : i ≠ j)
    (hx : X.env.scope.names.lookup x = some .local) (hy : X.env.scope.names.lookup y = some .local) (ha : PA X [a, b] ta)
    (hw : swappedStores [.Tuple [.Name x px, .Name y py] kt pt] (.Tuple [a, b] k2 pt2) X.env = pure (some [x, y]))
    (hs : swapsWithSole [.Tuple [.Name x px, .Name y py] kt pt] (.Tuple [a, b] k2 pt2) pos.line X.env = pure false := by rfl) :
    PS X (.Assign [.Tuple [.Name x px, .Name y py] kt pt] (.Tuple [a, b] k2 pt2) pos) (tPar i j ta) := by
  intro pins s σ H D I h
  rw [exec_Assign_arm]
  refine wpAny_bind (wpAny_standAt ?_)
  rw [hs]
  refine wpAny_bind (wpAny_pure ?_)
  rw [if_neg (by decide)]
  refine wpAny_bind (Tuple_ (thn (ha _ pins s σ H _ I h) fun us s1 ⟨vs, H1, I1, r1, q1⟩ => ?_))
  obtain ⟨v, w, e1, q1⟩ := q1
  subst e1
  obtain ⟨u1, u2, rfl, rv, rw'⟩ : ∃ u1 u2, us = [u1, u2] ∧ RelV v u1 ∧ RelV w u2 := by
    cases r1 with
    | cons p q =>
      cases q with
      | cons p' q' =>
        cases q'
        exact ⟨_, _, rfl, p, p'⟩
  refine wpAny_newObj_type ?_ (by show 2 ≤ sizeLine; decide)
  have I2 : Inv X pins σ H1 { s1 with heap := s1.heap.push { cls := .type "tuple", data := .seq [u1, u2].toArray } } := I1.kept (t' := s1.toks) fun b o e => Heap.get?_push_of_some _ e
  rw [hw]
  refine wpAny_bind (wpAny_pure ?_)
  show wpAny (model X.prog X.w) X.A (do rule "assign.swapped-stores"; let items ← unpackItems (.ref s1.heap.objs.size) 2 none; assignInOrder [fun v => bindName X.env y v, fun v => bindName X.env x v] items.reverse; pure Flow.next) _ _ _
  refine wpAny_bind (wpAny_rule (wpAny_bind (unpackItems_tuple (items := #[u1, u2]) (I.ok.hd hc) (IsTup.new s1.heap _) fun h' hx' => ?_)))
  have I3 := I2.kept (h' := h') (t' := s1.toks) fun b o e => hx' b o (Nat.ne_of_lt (Heap.lt_size e)) e
  show wpAny _ _ (assignInOrder [fun v => bindName X.env y v, fun v => bindName X.env x v] [u2, u1] >>= fun _ => pure Flow.next) _ _ _
  refine wpAny_bind (assignInOrder_cons (wpAny_bindName (store_ok I3 hN hj (.inl hy) rw' (fun s2 I4 => ?_) (.inr hy))))
  refine assignInOrder_cons (wpAny_bindName (store_ok I4 hN hi (.inl hx) rv (fun s3 I5 => assignInOrder_nil (wpAny_pure ?_)) (.inr hx)))
  rw [List.set_comm _ _ (Ne.symm hij)] at I5
  exact ⟨_, H1, I5, q1⟩
/-- name op= e -/
def tAug (i : Nat) (te : TE) (ti : TIp) : TS := fun D σ H => ∃ x, σ[i]? = some (some x) ∧ te σ H fun y H1 => ti x y H1 fun z H2 => D.nx (σ.set i (some z)) H2
/-- o[i] op= e -/
def tAugS (to ti te : TE) (tget : V → V → Hp → VK → Prop) (tip : TIp) (tset : TSet) : TS := fun D σ H => to σ H fun o H1 => ti σ H1 fun i H2 => tget o i H2 fun x H3 => te σ H3 fun y H4 => tip x y H4 fun z H5 => tset o i z H5 fun H6 => D.nx σ H6
/-- o[i], by values -/
def PGet (X : Cx) (t : V → V → Hp → VK → Prop) : Prop :=
  ∀ (pins : List (Addr × Obj)) (s : Shared) (σ : St) (H : Hp) (o i : V) (ov iv : Value) (Q : VK), Inv X pins σ H s → RelV o ov → RelV i iv → t o i H Q →
    wpAny (model X.prog X.w) X.A (getItem ov iv) (EP X pins σ Q) X.xe s
/-- ints -/
def ipI (f : Int → Int → Int) : TIp := fun x y H Q => ∃ i j, x = .int i ∧ y = .int j ∧ Q (.int (f i j)) H
end

/-! ### while -/
section
variable {X : Cx} {pos : Pos}
/-- the invariant W with its measure -/
def tWhile (c : TT) (tb : TS) : TS := fun D σ H => ∃ W : Nat → St → Hp → Prop, (∃ m, W m σ H) ∧ ∀ m σ H, W m σ H →
  c σ H fun b H1 => if b = true then ∃ N : St → Hp → Prop, (∀ σ' H', N σ' H' → ∃ m', m' < m ∧ W m' σ' H') ∧ tb { D with nx := N, ct := N, bk := D.nx } σ H1 else D.nx σ H1
theorem ps_while {c : Expr} {body : List Stmt} {tc : TT} {tb : TS} (hp : PassesOwn (model X.prog X.w) X.A X.env X.xe) (hc : PT X c tc) (hb : PSs X body tb) : PS X (.While c body [] pos) (tWhile tc tb) := by
  intro pins s σ H D I h
  obtain ⟨W, ⟨m0, w0⟩, turn⟩ := h
  refine wpAny_While (codeAny_whileLoop (fun n s' => ∃ σ' H', Inv X pins σ' H' s' ∧ W n σ' H') ?_ m0 ⟨σ, H, I, w0⟩)
  rintro n s1 ⟨σ1, H1, I1, w1⟩
  refine wpAny_passesOwn hp (thn (hc pins s1 σ1 H1 _ I1 (turn n σ1 H1 w1)) fun b s2 ⟨H2, I2, q2⟩ => ?_)
  cases b with
  | true =>
    obtain ⟨N, hN, q2⟩ := q2
    rw [if_pos rfl]
    refine wpAny_passesOwn hp (thn (hb pins s2 σ1 H2 _ I2 q2) fun f s3 q3 => ?_)
    cases f with
    | next =>
      obtain ⟨σ3, H3, I3, n3⟩ := q3
      obtain ⟨m', hm, w3⟩ := hN σ3 H3 n3
      exact ⟨m', hm, σ3, H3, I3, w3⟩
    | cont =>
      obtain ⟨σ3, H3, I3, n3⟩ := q3
      obtain ⟨m', hm, w3⟩ := hN σ3 H3 n3
      exact ⟨m', hm, σ3, H3, I3, w3⟩
    | brk => exact q3
    | ret v => exact q3
  | false =>
    rw [if_neg Bool.false_ne_true]
    exact wpAny_execs_nil ⟨σ1, H2, I2, q2⟩
end

/-! ### what a loop or a comprehension walks -/
/-- at turn i: it yields x (the heap may grow), or it stops -/
structure It where
  go : Nat → Hp → Prop
  yld : Nat → Hp → V → Hp → Prop
  stop : Nat → Hp → Prop
/-- the iterator's own objects may turn: they are not the frame's, not pinned, younger than the entry (or a comprehension's own) -/
def FpOk (X : Cx) (pins : List (Addr × Obj)) (H : Hp) (b : Addr) : Prop :=
  H b = none ∧ b ≠ X.env.locals ∧ b ∉ X.fs ∧ (b ∈ X.ex ∨ X.s₀.heap.objs.size ≤ b) ∧ (∀ x c, X.env.cells.lookup x = some c → c ≠ b) ∧ ∀ p ∈ X.pn ++ pins, p.1 ≠ b
theorem Inv.fpOk {X : Cx} {pins : List (Addr × Obj)} {σ : St} {H H' : Hp} {s : Shared} {b : Addr} (I : Inv X pins σ H s) (hb : s.heap.objs.size ≤ b) (hn : H' b = none) : FpOk X pins H' b := by
  refine ⟨hn, Nat.ne_of_gt (Nat.lt_of_lt_of_le I.lt hb), I.nofs hb, .inr (Nat.le_trans I.sz hb), fun x c e z => ?_, fun p hp z => ?_⟩
  · obtain ⟨v, q⟩ := I.cell x c e
    exact absurd (Nat.lt_of_lt_of_le q.lt (by rw [z]; exact hb)) (Nat.lt_irrefl _)
  · exact absurd (Nat.lt_of_lt_of_le (Heap.lt_size (I.pin p hp).1) (by rw [z]; exact hb)) (Nat.lt_irrefl _)
structure Turn (P : Program) (w : World) (K : PySem.W.Frag) (tg : Expr) (J : It) (fp : List Addr) (it : Addr) (tn : Nat → Heap → Prop) : Prop where
  mem : it ∈ fp
  obj : ∀ i h, tn i h → ∀ b ∈ fp, ∃ o, h.get? b = some o ∧ ∀ v, o.data ≠ .cell v
  keep : ∀ i h h', tn i h → (∀ b ∈ fp, ∀ o, h.get? b = some o → h'.get? b = some o) → tn i h'
  item : ∀ (X : Cx), X.prog = P → X.w = w → X.K = K → X.calm = true → ∀ (i : Nat) (pins : List (Addr × Obj)) (s : Shared) (σ : St) (H : Hp) (E : Value → Shared → Prop), Inv X pins σ H s → (∀ b ∈ fp, FpOk X pins H b) → tn i s.heap → J.go i H →
    wpAny (model P w) X.A (pyNext (.ref it)) (fun r s1 => ∃ u, r = some u ∧
      wpAny (model P w) X.A (letOwnedTupleGo tg (.ref it) u) (fun _ s2 => ∃ x H', Inv X pins σ H' s2 ∧ RelV x u ∧ J.yld i H x H' ∧ tn (i + 1) s2.heap ∧ ∀ b ∈ fp, H' b = none) E s1) E s
  done : ∀ (X : Cx), X.prog = P → X.w = w → X.K = K → X.calm = true → ∀ (i : Nat) (pins : List (Addr × Obj)) (s : Shared) (σ : St) (H : Hp) (E : Value → Shared → Prop), Inv X pins σ H s → (∀ b ∈ fp, FpOk X pins H b) → tn i s.heap → J.stop i H →
    wpAny (model P w) X.A (pyNext (.ref it)) (fun r s1 => r = none ∧ Inv X pins σ H s1) E s
  self : ∀ (A : Around) (i : Nat) (s : Shared) (Q : Value → Shared → Prop) (E : Value → Shared → Prop), tn i s.heap → Q (.ref it) s → wpAny (model P w) A (pyIter (.ref it)) Q E s
abbrev TI := St → Hp → (It → Hp → Prop) → Prop
/-- an iterator has come -/
def PIE (X : Cx) (pins : List (Addr × Obj)) (σ : St) (tg : Expr) (R : It → Hp → Prop) (itv : Value) (s2 : Shared) : Prop :=
  ∃ (it : Addr) (fp : List Addr) (tn : Nat → Heap → Prop) (J : It) (H' : Hp), itv = .ref it ∧ Inv X pins σ H' s2 ∧ Turn X.prog X.w X.K tg J fp it tn ∧ tn 0 s2.heap ∧ (∀ b ∈ fp, FpOk X pins H' b) ∧ R J H'
def PI (X : Cx) (tg iter : Expr) (wi : TI) : Prop :=
  ∀ (pins : List (Addr × Obj)) (s : Shared) (σ : St) (H : Hp) (R : It → Hp → Prop), Inv X pins σ H s → wi σ H R →
    wpAny (model X.prog X.w) X.A (eval iter X.env) (fun v s1 => wpAny (model X.prog X.w) X.A (pyIter v) (PIE X pins σ tg R) X.xe s1) X.xe s

/-- the step ahead of the store is nothing for an iterator that keeps no tuple -/
theorem go_of {M : Model} {A : Around} {E : Value → Shared → Prop} {s : Shared} {tg : Expr} {it : Addr} {u : Value} {o : Obj} {n : String} {vs : Array Value} {Q : Unit → Shared → Prop} (ho : s.heap.get? it = some o) (hc : o.cls = .type n) (hd : o.data = .fields vs)
    (hn : ["enumerate", "zip", "dict_itemiterator", "dict_reverseitemiterator", "odict_iterator", "itertools.zip_longest", "itertools.pairwise"].contains n = false) (hQ : Q () s) : wpAny M A (letOwnedTupleGo tg (.ref it) u) Q E s := by
  unfold letOwnedTupleGo
  cases tg <;> first
    | exact wpAny_pure hQ
    | (cases u <;> first
        | exact wpAny_pure hQ
        | (refine wpAny_bind (wpAny_load ho ?_)
           rw [hc, hd]
           show wpAny M A (if (["enumerate", "zip", "dict_itemiterator", "dict_reverseitemiterator", "odict_iterator", "itertools.zip_longest", "itertools.pairwise"].contains n && vs[0]? == some (rawInt _)) = true then _ else _) Q E s
           rw [if_neg (by intro h; rw [hn, Bool.false_and] at h; cases h)]
           exact wpAny_pure hQ))

/-- the list at a, as it stands at each turn (a loop may append to it) -/
def Itl (K : PySem.W.Frag) (a : Addr) : It :=
  ⟨fun i H => ∃ xs x, SqL K H a xs ∧ xs[i]? = some x, fun i H x H' => H' = H ∧ ∀ xs, SqL K H a xs → xs[i]? = some x, fun i H => ∃ xs, SqL K H a xs ∧ xs.length ≤ i⟩
def Itt (K : PySem.W.Frag) (a : Addr) : It :=
  ⟨fun i H => ∃ xs x, SqT K H a xs ∧ xs[i]? = some x, fun i H x H' => H' = H ∧ ∀ xs, SqT K H a xs → xs[i]? = some x, fun i H => ∃ xs, SqT K H a xs ∧ xs.length ≤ i⟩
/-- lo, lo + 1, .. (n of them) -/
def Itr (lo : Int) (n : Nat) : It := ⟨fun i _ => i < n, fun i H x H' => H' = H ∧ x = .int (lo + i), fun i _ => n ≤ i⟩
theorem turn_list {P : Program} {w : World} {K : PySem.W.Frag} {tg : Expr} (a it : Addr) : Turn P w K tg (Itl K a) [it] it (fun i h => h.IsListIter it a i) where
  mem := by simp
  obj := fun i h st b hb => by
    have e : b = it := by simpa using hb
    subst e
    obtain ⟨o, e, c, d⟩ := st
    exact ⟨o, e, fun v z => by rw [d] at z; cases z⟩
  keep := fun i h h' st k => st.at fun o e => k it (by simp) o e
  item := by
    intro X hP hw hK hc i pins s σ H E I hf st hg
    subst hP hw hK
    obtain ⟨xs, x, hq, hx⟩ := hg
    obtain ⟨its, rv, p, hz⟩ := I.list hq
    obtain ⟨u, hu, ru⟩ := rv.get hx
    obtain ⟨f0, f1, f2, f3, f4, f5⟩ := hf it (by simp)
    refine wpAny_pyNext_list_item st p.isList (x := u) (by simpa using hu) fun h' st' sb => ?_
    have I1 : Inv X pins σ H { s with heap := h' } := I.turned (t' := s.toks) (fun b o hb e => (sb.2 b hb).trans e) f0 f1 f3 f4 f5
    obtain ⟨o, e, c, d⟩ := id st'
    exact ⟨u, rfl, go_of (s := { s with heap := h' }) e c d (by decide) ⟨x, H, I1, ru, ⟨rfl, fun ys hy => by rw [I.list_inj hy hq]; exact hx⟩, st', fun b hb => (hf b hb).1⟩⟩
  done := by
    intro X hP hw hK hc i pins s σ H E I hf st hg
    subst hP hw hK
    obtain ⟨xs, hq, hx⟩ := hg
    obtain ⟨its, rv, p, hz⟩ := I.list hq
    obtain ⟨f0, f1, f2, f3, f4, f5⟩ := hf it (by simp)
    have hl := rv.length
    exact wpAny_pyNext_list_end (I.ok.hd hc) st p.isList (by simp; omega) fun h' eb => ⟨rfl, I.turned (t' := s.toks) (fun b o hb e => eb b o hb e) f0 f1 f3 f4 f5⟩
  self := fun _ _ _ _ _ st h => wpAny_pyIter_listiter st h
theorem turn_tuple {P : Program} {w : World} {K : PySem.W.Frag} {tg : Expr} (a it : Addr) : Turn P w K tg (Itt K a) [it] it (fun i h => h.IsTupleIter it a i) where
  mem := by simp
  obj := fun i h st b hb => by
    have e : b = it := by simpa using hb
    subst e
    obtain ⟨o, e, c, d⟩ := st
    exact ⟨o, e, fun v z => by rw [d] at z; cases z⟩
  keep := fun i h h' st k => st.at fun o e => k it (by simp) o e
  item := by
    intro X hP hw hK hc i pins s σ H E I hf st hg
    subst hP hw hK
    obtain ⟨xs, x, hq, hx⟩ := hg
    obtain ⟨its, rv, p, hz⟩ := I.tuple hq
    obtain ⟨u, hu, ru⟩ := rv.get hx
    obtain ⟨f0, f1, f2, f3, f4, f5⟩ := hf it (by simp)
    refine wpAny_pyNext_tuple_item st (show s.heap.IsTuple a its.toArray from p) (x := u) (by simpa using hu) fun h' st' sb => ?_
    have I1 : Inv X pins σ H { s with heap := h' } := I.turned (t' := s.toks) (fun b o hb e => (sb.2 b hb).trans e) f0 f1 f3 f4 f5
    obtain ⟨o, e, c, d⟩ := id st'
    exact ⟨u, rfl, go_of (s := { s with heap := h' }) e c d (by decide) ⟨x, H, I1, ru, ⟨rfl, fun ys hy => by rw [I.tuple_inj hy hq]; exact hx⟩, st', fun b hb => (hf b hb).1⟩⟩
  done := by
    intro X hP hw hK hc i pins s σ H E I hf st hg
    subst hP hw hK
    obtain ⟨xs, hq, hx⟩ := hg
    obtain ⟨its, rv, p, hz⟩ := I.tuple hq
    obtain ⟨f0, f1, f2, f3, f4, f5⟩ := hf it (by simp)
    have hl := rv.length
    exact wpAny_pyNext_tuple_end (I.ok.hd hc) st (show s.heap.IsTuple a its.toArray from p) (by simp; omega) fun h' eb => ⟨rfl, I.turned (t' := s.toks) (fun b o hb e => eb b o hb e) f0 f1 f3 f4 f5⟩
  self := fun _ _ _ _ _ st h => wpAny_pyIter_tupleiter st h
theorem turn_range {P : Program} {w : World} {K : PySem.W.Frag} {tg : Expr} (it : Addr) (lo : Int) (n : Nat) : Turn P w K tg (Itr lo n) [it] it (fun i h => IsRangeIter h it (lo + (i : Nat) * 1) ((n : Int) - (i : Nat)) 1) where
  mem := by simp
  obj := fun i h st b hb => by
    have e : b = it := by simpa using hb
    subst e
    exact ⟨_, st, fun v z => by
      have z' : Data.fields _ = Data.cell v := z
      cases z'⟩
  keep := fun i h h' st k => k it (by simp) _ st
  item := by
    intro X hP hw hK hc i pins s σ H E I hf st hg
    subst hP hw hK
    obtain ⟨f0, f1, f2, f3, f4, f5⟩ := hf it (by simp)
    have W := Walks.range (prog := X.prog) (w := X.w) (I.ok.hd hc) it lo 1 n
    refine W.item i s _ _ hg st fun v h' tk hv st' kk => ?_
    obtain ⟨t, rfl⟩ := hv
    have I1 : Inv X pins σ H { s with heap := h', toks := tk } := I.turned (fun b o hb e => kk b o (by simpa using hb) e) f0 f1 f3 f4 f5
    refine ⟨_, rfl, go_of (s := { s with heap := h', toks := tk }) (n := "range_iterator") st' rfl rfl (by decide) ⟨.int (lo + i), H, I1, ⟨t, ?_⟩, ⟨rfl, rfl⟩, st', fun b hb => (hf b hb).1⟩⟩
    rw [Int.mul_one]
  done := by
    intro X hP hw hK hc i pins s σ H E I hf st hg
    subst hP hw hK
    obtain ⟨f0, f1, f2, f3, f4, f5⟩ := hf it (by simp)
    exact wpAny_pyNext_range_end (I.ok.hd hc) st (by have : n ≤ i := hg; omega) fun h' eb => ⟨rfl, I.turned (t' := s.toks) (fun b o hb e => eb b o hb e) f0 f1 f3 f4 f5⟩
  self := fun _ _ _ _ _ st h => wpAny_pyIter_rangeiter st h
end L2

namespace L2
open PySem PySem.Spec PyProof.Rows
section
variable {X : Cx} {tg : Expr}
def iList (K : PySem.W.Frag) (tl : TE) : TI := fun σ H R => tl σ H fun x H1 => ∃ a, x = .ref a ∧ (∃ xs, SqL K H1 a xs) ∧ R (Itl K a) H1
def iTup (K : PySem.W.Frag) (tl : TE) : TI := fun σ H R => tl σ H fun x H1 => ∃ a, x = .ref a ∧ (∃ xs, SqT K H1 a xs) ∧ R (Itt K a) H1
/-- a range object just made, walked -/
theorem range_it {pins : List (Addr × Obj)} {σ : St} {H : Hp} {s : Shared} {R : It → Hp → Prop} {E : Value → Shared → Prop} {lo hi : Int} {t u v : Tok} {tk : Nat} (I : Inv X pins σ H s) (h1 : -(2 ^ 62) ≤ lo) (h2 : lo < 2 ^ 62) (h3 : -(2 ^ 62) ≤ hi) (h4 : hi < 2 ^ 62)
    (q : R (Itr lo (hi - lo).toNat) H) : wpAny (model X.prog X.w) X.A (pyIter (.ref s.heap.objs.size)) (PIE X pins σ tg R) E { s with heap := s.heap.push { cls := .type "range", data := .fields #[.int lo t, .int hi u, .int 1 v] }, toks := tk } := by
  refine wpAny_pyIter_range (IsRange.new ..) (small_one h1 h2 h3 h4) ?_
  have I1 : Inv X pins σ H { s with heap := s.heap.push { cls := .type "range", data := .fields #[.int lo t, .int hi u, .int 1 v] }, toks := tk } := I.kept fun b o e => Heap.get?_push_of_some _ e
  refine ⟨(s.heap.push { cls := .type "range", data := .fields #[.int lo t, .int hi u, .int 1 v] }).objs.size, [(s.heap.push { cls := .type "range", data := .fields #[.int lo t, .int hi u, .int 1 v] }).objs.size], _, _, H, rfl,
    I1.kept (t' := tk) fun b o e => Heap.get?_push_of_some _ e, turn_range _ lo (hi - lo).toNat, ?_, fun b hb => ?_, q⟩
  · have e1 : lo + ((0 : Nat) : Int) * 1 = lo := by simp
    have e2 : (((hi - lo).toNat : Nat) : Int) - ((0 : Nat) : Int) = Builtin.Range.rangeSize lo hi 1 := by rw [rangeSize_one]; split <;> omega
    show IsRangeIter _ _ (lo + ((0 : Nat) : Int) * 1) ((((hi - lo).toNat : Nat) : Int) - ((0 : Nat) : Int)) 1
    rw [e1, e2]
    exact Heap.get?_push_size _ rfl
  · have e : b = (s.heap.push { cls := .type "range", data := .fields #[.int lo t, .int hi u, .int 1 v] }).objs.size := by simpa using hb
    subst e
    exact I1.fpOk (Nat.le_refl _) (I1.hok.fresh (Nat.le_refl _))
def iRng1 (ta : TA) : TI := fun σ H R => ta σ H fun vs H1 => ∃ j : Int, vs = [.int j] ∧ -(2 ^ 62) ≤ j ∧ j < 2 ^ 62 ∧ R (Itr 0 j.toNat) H1
def iRng2 (ta : TA) : TI := fun σ H R => ta σ H fun vs H1 => ∃ i j : Int, vs = [.int i, .int j] ∧ (-(2 ^ 62) ≤ i ∧ i < 2 ^ 62 ∧ -(2 ^ 62) ≤ j ∧ j < 2 ^ 62) ∧ R (Itr i (j - i).toNat) H1
theorem pi_range1 {a : Expr} {ta : TA} {p pos : Pos} (hg : Gl X "range") (hm : X.mg "range" = none) (ha : PA X [a] ta) (hs : starEach [a] X.env = [(false, eval a X.env)] := by rfl) : PI X tg (.Call (.Name "range" p) [a] [] pos) (iRng1 ta) := by
  intro pins s σ H R I h
  refine Call_ (ld_blt I hg hm boot_range (PyProof.Rows.callWith_type1 (thn (ha pos pins s σ H _ I h) fun us s1 ⟨vs, H1, I1, r1, q1⟩ => ?_) hs rfl))
  obtain ⟨j, e, q1, q2, q⟩ := q1
  subst e
  cases r1 with
  | cons r rr =>
    cases rr
    obtain ⟨t, rfl⟩ := r
    exact call_range_1 (range_it I1 (by omega) (by omega) q1 q2 (by simpa using q))
theorem pi_range2 {a b : Expr} {ta : TA} {p pos : Pos} (hg : Gl X "range") (hm : X.mg "range" = none) (ha : PA X [a, b] ta) (hs : starEach [a, b] X.env = [(false, eval a X.env), (false, eval b X.env)] := by rfl) (hs2 : starEach [b] X.env = [(false, eval b X.env)] := by rfl) :
    PI X tg (.Call (.Name "range" p) [a, b] [] pos) (iRng2 ta) := by
  intro pins s σ H R I h
  refine Call_ (ld_blt I hg hm boot_range (PyProof.Rows.callWith_type1 (thn (ha pos pins s σ H _ I h) fun us s1 ⟨vs, H1, I1, r1, q1⟩ => ?_) (by rw [hs, hs2]) (by rw [hs2]; rfl)))
  obtain ⟨i, j, e, ⟨q1, q2, q3, q4⟩, q⟩ := q1
  subst e
  cases r1 with
  | cons r rr =>
    cases rr with
    | cons r' rr =>
      cases rr
      obtain ⟨t, rfl⟩ := r
      obtain ⟨t', rfl⟩ := r'
      exact call_range_2 (range_it I1 q1 q2 q3 q4 q)

/-! ### for -/
/-- W: the invariant by the turn and a measure; N: what the body is to reach -/
def tFor (wi : TI) (g : TG) (tb : TS) : TS := fun D σ H => wi σ H fun J H1 => ∃ W : Nat → Nat → St → Hp → Prop, (∃ m, W 0 m σ H1) ∧ ∀ i m σ H, W i m σ H →
  (J.stop i H ∧ D.nx σ H) ∨ (J.go i H ∧ ∃ N : St → Hp → Prop, (∀ σ' H', N σ' H' → ∃ m', m' < m ∧ W (i + 1) m' σ' H') ∧ ∀ x H', J.yld i H x H' → g x σ H' fun σ2 H2 => tb { D with nx := N, ct := N, bk := D.nx } σ2 H2)
/-- the records at fp as they stand -/
def pinsAt (fp : List Addr) (h : Heap) : List (Addr × Obj) := fp.filterMap fun b => (h.get? b).map fun o => (b, o)
theorem mem_pinsAt {fp : List Addr} {h : Heap} {b : Addr} {o : Obj} (hb : b ∈ fp) (e : h.get? b = some o) : (b, o) ∈ pinsAt fp h := List.mem_filterMap.mpr ⟨b, hb, by rw [e]; rfl⟩
theorem of_pinsAt {fp : List Addr} {h : Heap} {p : Addr × Obj} (hp : p ∈ pinsAt fp h) : p.1 ∈ fp ∧ h.get? p.1 = some p.2 := by
  obtain ⟨b, hb, e⟩ := List.mem_filterMap.mp hp
  cases q : h.get? b with
  | none => rw [q] at e; cases e
  | some o =>
    rw [q] at e
    have e' : (b, o) = p := Option.some.inj e
    subst e'
    exact ⟨hb, q⟩
theorem Inv.pinned {pins : List (Addr × Obj)} {σ : St} {H : Hp} {s : Shared} {fp : List Addr} (I : Inv X pins σ H s) (hf : ∀ b ∈ fp, FpOk X pins H b) (ho : ∀ b ∈ fp, ∃ o, s.heap.get? b = some o ∧ ∀ v, o.data ≠ .cell v) : Inv X (pins ++ pinsAt fp s.heap) σ H s :=
  I.pins_of fun p hp => (List.mem_append.mp hp).elim (fun z => I.pin p (List.mem_append_right _ z)) fun z => by
    obtain ⟨hb, e⟩ := of_pinsAt z
    obtain ⟨f0, f1, f2, _⟩ := hf p.1 hb
    obtain ⟨o, e', d⟩ := ho p.1 hb
    rw [e] at e'; cases e'
    exact ⟨e, f0, f1, f2, d⟩
theorem Inv.unpinned {pins pl : List (Addr × Obj)} {σ : St} {H : Hp} {s : Shared} (I : Inv X (pins ++ pl) σ H s) : Inv X pins σ H s := I.pins_of fun p hp => I.pin p (List.mem_append_right _ (List.mem_append_left _ hp))
theorem ps_for {iter : Expr} {body : List Stmt} {wi : TI} {g : TG} {tb : TS} {pos : Pos} (hp : PassesOwn (model X.prog X.w) X.A X.env X.xe) (hc : X.calm = true) (hi : PI X tg iter wi) (hg : PG X tg g) (hb : PSs X body tb)
    (hs : ∀ x, foldedSetIterable iter X.env x = pure x := by intro _; rfl) : PS X (.For tg iter body [] pos) (tFor wi g tb) := by
  intro pins s σ H D I h
  refine wpAny_For (thn (hi pins s σ H _ I h) fun v s1 h1 => thn h1 fun itv s2 h2 => ?_) hs
  obtain ⟨it, fp, tn, J, H2, e, I2, T, st2, f2, W, ⟨m0, w0⟩, turn⟩ := h2
  subst e
  -- what stays true of the iterator's objects through the loop
  have stat : ∀ {H' : Hp}, (∀ b ∈ fp, H' b = none) → ∀ b ∈ fp, FpOk X pins H' b := fun hn b hb => ⟨hn b hb, (f2 b hb).2⟩
  refine codeAny_forLoop_any (fun n s' => ∃ i σ' H', Inv X pins σ' H' s' ∧ tn i s'.heap ∧ (∀ b ∈ fp, H' b = none) ∧ W i n σ' H') ?_ m0 ⟨0, σ, H2, I2, st2, fun b hb => (f2 b hb).1, w0⟩
  rintro n s3 ⟨i, σ3, H3, I3, st3, fr3, w3⟩
  rcases turn i n σ3 H3 w3 with ⟨stop, qn⟩ | ⟨go, N, hN, step⟩
  · refine wpAny_passesOwn hp (thn (T.done X rfl rfl rfl hc i pins s3 σ3 H3 X.xe I3 (stat fr3) st3 stop) fun r s4 ⟨hr, I4⟩ => ?_)
    subst hr
    exact wpAny_execs_nil ⟨σ3, H3, I4, qn⟩
  · refine wpAny_passesOwn hp (thn (T.item X rfl rfl rfl hc i pins s3 σ3 H3 X.xe I3 (stat fr3) st3 go) fun r s4 ⟨u, hr, h4⟩ => ?_)
    subst hr
    refine wpAny_passesOwn hp (thn h4 fun _ s5 ⟨x, H5, I5, r5, y5, st5, fr5⟩ => ?_)
    have I5' := I5.pinned (stat fr5) (T.obj _ _ st5)
    refine wpAny_passesOwn hp (thn (hg _ s5 σ3 H5 x u _ I5' r5 (step x H5 y5)) fun _ s6 ⟨σ6, H6, I6, q6⟩ => ?_)
    refine wpAny_passesOwn hp (thn (hb _ s6 σ6 H6 _ I6 q6) fun f s7 q7 => ?_)
    have again : ∀ {σ7 : St} {H7 : Hp}, Inv X (pins ++ pinsAt fp s5.heap) σ7 H7 s7 → N σ7 H7 → ∃ m, m < n ∧ ∃ i σ' H', Inv X pins σ' H' s7 ∧ tn i s7.heap ∧ (∀ b ∈ fp, H' b = none) ∧ W i m σ' H' := fun {σ7 H7} I7 n7 => by
      obtain ⟨m', hm, w7⟩ := hN σ7 H7 n7
      refine ⟨m', hm, i + 1, σ7, H7, I7.unpinned, T.keep _ _ _ st5 fun b hb o e => (I7.pin (b, o) (List.mem_append_right _ (List.mem_append_right _ (mem_pinsAt hb e)))).1, fun b hb => ?_, w7⟩
      obtain ⟨o, e, d⟩ := T.obj _ _ st5 b hb
      exact (I7.pin (b, o) (List.mem_append_right _ (List.mem_append_right _ (mem_pinsAt hb e)))).2.1
    cases f with
    | next => obtain ⟨σ7, H7, I7, n7⟩ := q7; exact again I7 n7
    | cont => obtain ⟨σ7, H7, I7, n7⟩ := q7; exact again I7 n7
    | brk => obtain ⟨σ7, H7, I7, q7⟩ := q7; exact ⟨σ7, H7, I7.unpinned, q7⟩
    | ret v => obtain ⟨x7, σ7, H7, I7, r7, q7⟩ := q7; exact ⟨x7, σ7, H7, I7.unpinned, r7, q7⟩
end

/-! ### the forms one uses -/
end L2

namespace L2
open PySem PySem.Spec PyProof.Rows

abbrev R2 := V → V → Hp → VK → Prop
/-- a two-place operation on values: f is binaryOp op, inplaceOp op or compareOp op -/
def OpR (X : Cx) (f : Value → Value → Sem Value) (r : R2) : Prop :=
  ∀ (pins : List (Addr × Obj)) (s : Shared) (σ : St) (H : Hp) (x y : V) (v u : Value) (Q : VK), Inv X pins σ H s → RelV x v → RelV y u → r x y H Q →
    wpAny (model X.prog X.w) X.A (f v u) (EP X pins σ Q) X.xe s
/-- a one-place operation -/
def UnR (X : Cx) (f : Value → Sem Value) (r : V → Hp → VK → Prop) : Prop :=
  ∀ (pins : List (Addr × Obj)) (s : Shared) (σ : St) (H : Hp) (x : V) (v : Value) (Q : VK), Inv X pins σ H s → RelV x v → r x H Q →
    wpAny (model X.prog X.w) X.A (f v) (EP X pins σ Q) X.xe s
/-- a call of a value that is known (a builtin, a type) with values -/
def CallR (X : Cx) (f : Value) (r : List V → Hp → VK → Prop) : Prop :=
  ∀ (pins : List (Addr × Obj)) (s : Shared) (σ : St) (H : Hp) (xs : List V) (us : List Value) (Q : VK), Inv X pins σ H s → Vals xs us → r xs H Q →
    wpAny (model X.prog X.w) X.A (call f us) (EP X pins σ Q) X.xe s
/-- a value's truth -/
def TruR (X : Cx) (r : V → Hp → (Bool → Hp → Prop) → Prop) : Prop :=
  ∀ (pins : List (Addr × Obj)) (s : Shared) (σ : St) (H : Hp) (x : V) (v : Value) (Q : Bool → Hp → Prop), Inv X pins σ H s → RelV x v → r x H Q →
    wpAny (model X.prog X.w) X.A (truthy v) (TP X pins σ Q) X.xe s

def tOp (r : R2) (ta tb : TE) : TE := fun σ H Q => ta σ H fun x H1 => tb σ H1 fun y H2 => r x y H2 Q
def tUn (r : V → Hp → VK → Prop) (ta : TE) : TE := fun σ H Q => ta σ H fun x H1 => r x H1 Q
/-- ints in, under C, and a value out -/
def rI (C : Int → Int → Prop) (g : Int → Int → V) : R2 := fun x y H Q => ∃ i j, x = .int i ∧ y = .int j ∧ C i j ∧ Q (g i j) H
def rI0 (g : Int → Int → V) : R2 := fun x y H Q => ∃ i j, x = .int i ∧ y = .int j ∧ Q (g i j) H
def rU (g : Int → V) : V → Hp → VK → Prop := fun x H Q => ∃ i, x = .int i ∧ Q (g i) H

section
variable {X : Cx} {a b c : Expr} {ta tb tc : TE} {pos : Pos}

theorem binT (ha : PE X a ta) (hb : PE X b tb) {pins : List (Addr × Obj)} {s : Shared} {σ : St} {H : Hp} {R : V → V → Hp → Prop} (I : Inv X pins σ H s)
    (h : ta σ H fun x H1 => tb σ H1 fun y H2 => R x y H2) {Q : Value → Shared → Prop} {f : Value → Value → Sem Value}
    (hf : ∀ v u s2 x y H2, Inv X pins σ H2 s2 → RelV x v → RelV y u → R x y H2 → wpAny (model X.prog X.w) X.A (f v u) Q X.xe s2) :
    wpAny (model X.prog X.w) X.A (eval a X.env) (fun v s₁ => wpAny (model X.prog X.w) X.A (eval b X.env) (fun u s₂ => wpAny (model X.prog X.w) X.A (f v u) Q X.xe s₂) X.xe s₁) X.xe s := by
  refine thn (ha pins s σ H _ I h) fun v s1 ⟨x, H1, I1, r1, q1⟩ => ?_
  refine thn (hb pins s1 σ H1 _ I1 q1) fun u s2 ⟨y, H2, I2, r2, q2⟩ => ?_
  exact hf v u s2 x y H2 I2 r1 r2 q2

theorem pe_op {op : Operator} {r : R2} (ho : OpR X (binaryOp op) r) (ha : PE X a ta) (hb : PE X b tb) : PE X (.BinOp a op b pos) (tOp r ta tb) := by
  intro pins s σ H Q I h
  exact wpAny_BinOp (binT ha hb I h fun v u s2 x y H2 I2 rx ry q => ho pins s2 σ H2 x y v u Q I2 rx ry q)
theorem pe_un {op : UnaryOp} {r : V → Hp → VK → Prop} (ho : UnR X (unaryOp op) r) (ha : PE X a ta) : PE X (.UnaryOp op a pos) (tUn r ta) := by
  intro pins s σ H Q I h
  exact UnaryOp_ (thn (ha pins s σ H _ I h) fun v s1 ⟨x, H1, I1, r1, q1⟩ => ho pins s1 σ H1 x v Q I1 r1 q1)
/-! ### ints -/
theorem opI {f : Value → Value → Sem Value} {C : Int → Int → Prop} {g : Int → Int → Int}
    (rule : ∀ (i j : Int) (t u : Tok) (s : Shared) (Q : Value → Shared → Prop) (E : Value → Shared → Prop), C i j → Q (.int (g i j) s.toks) { s with toks := s.toks + 1 } → wpAny (model X.prog X.w) X.A (f (.int i t) (.int j u)) Q E s) :
    OpR X f (rI C fun i j => .int (g i j)) := by
  intro pins s σ H x y v u Q I rx ry h
  obtain ⟨i, j, rfl, rfl, hc, q⟩ := h
  obtain ⟨t, rfl⟩ := rx
  obtain ⟨t', rfl⟩ := ry
  exact rule i j t t' s _ _ hc ⟨.int (g i j), H, I.tok _, ⟨_, rfl⟩, q⟩
theorem opI0 {f : Value → Value → Sem Value} {g : Int → Int → Int}
    (rule : ∀ (i j : Int) (t u : Tok) (s : Shared) (Q : Value → Shared → Prop) (E : Value → Shared → Prop), Q (.int (g i j) s.toks) { s with toks := s.toks + 1 } → wpAny (model X.prog X.w) X.A (f (.int i t) (.int j u)) Q E s) :
    OpR X f (rI0 fun i j => .int (g i j)) := by
  intro pins s σ H x y v u Q I rx ry h
  obtain ⟨i, j, rfl, rfl, q⟩ := h
  obtain ⟨t, rfl⟩ := rx
  obtain ⟨t', rfl⟩ := ry
  exact rule i j t t' s _ _ ⟨.int (g i j), H, I.tok _, ⟨_, rfl⟩, q⟩
theorem opB0 {f : Value → Value → Sem Value} {g : Int → Int → Bool}
    (rule : ∀ (i j : Int) (t u : Tok) (s : Shared) (Q : Value → Shared → Prop) (E : Value → Shared → Prop), Q (.bool (g i j)) s → wpAny (model X.prog X.w) X.A (f (.int i t) (.int j u)) Q E s) :
    OpR X f (rI0 fun i j => .bl (g i j)) := by
  intro pins s σ H x y v u Q I rx ry h
  obtain ⟨i, j, rfl, rfl, q⟩ := h
  obtain ⟨t, rfl⟩ := rx
  obtain ⟨t', rfl⟩ := ry
  exact rule i j t t' s _ _ ⟨.bl (g i j), H, I, rfl, q⟩

def CDiv (i j : Int) : Prop := 0 < j ∧ j < 1073741824
def CDivN (i j : Int) : Prop := j ≠ 0 ∧ j.natAbs < 1073741824
def CPow (i j : Int) : Prop := 0 ≤ j ∧ j ≤ 1000000 ∧ i.natAbs < 2 ^ 64
def CMul (i j : Int) : Prop := (-(2 ^ 64) < i ∧ i < 2 ^ 64) ∨ (-(2 ^ 64) < j ∧ j < 2 ^ 64)
theorem op_add : OpR X (binaryOp .Add) (rI0 fun i j => .int (i + j)) := opI0 fun _ _ _ _ _ _ _ q => add_int q
theorem op_sub : OpR X (binaryOp .Sub) (rI0 fun i j => .int (i - j)) := opI0 fun _ _ _ _ _ _ _ q => sub_int q
/-- % by a positive divisor of any size -/
theorem op_mod : OpR X (binaryOp .Mod) (rI (fun _ j => 0 < j) fun i j => .int (i % j)) := opI fun i j _ _ _ _ _ hc q => by
  have h1 : (0 : Int) < j := hc
  exact mod_int' (by omega) (by rw [Int.fmod_eq_emod_of_nonneg i (by omega)]; exact q)
theorem op_pow : OpR X (binaryOp .Pow) (rI CPow fun i j => .int (i ^ j.toNat)) := opI fun _ _ _ _ _ _ _ hc q => pow_int_small hc.1 hc.2.1 hc.2.2 q
theorem unI {f : Value → Sem Value} {g : Int → Int}
    (rule : ∀ (i : Int) (t : Tok) (s : Shared) (Q : Value → Shared → Prop) (E : Value → Shared → Prop), Q (.int (g i) s.toks) { s with toks := s.toks + 1 } → wpAny (model X.prog X.w) X.A (f (.int i t)) Q E s) :
    UnR X f (rU fun i => .int (g i)) := by
  intro pins s σ H x v Q I rx h
  obtain ⟨i, rfl, q⟩ := h
  obtain ⟨t, rfl⟩ := rx
  exact rule i t s _ _ ⟨.int (g i), H, I.tok _, ⟨_, rfl⟩, q⟩
theorem un_neg : UnR X (unaryOp .USub) (rU fun i => .int (-i)) := unI fun _ _ _ _ _ q => neg_int q
/-! ### bools among ints: n += (a < b) -/
end

/-! ### comparisons -/
/-- the scalars that == tells apart as data does -/
def scal : V → V → Bool
  | .non, .non => true | .non, .int _ => true | .int _, .non => true | .non, .bl _ => true | .bl _, .non => true | .non, .str _ => true | .str _, .non => true
  | .int _, .int _ => true | .bl _, .bl _ => true | .str _, .str _ => true | .byt _, .byt _ => true
  | .int _, .str _ => true | .str _, .int _ => true | .bl _, .str _ => true | .str _, .bl _ => true
  | _, _ => false
def rEq : R2 := fun x y H Q => scal x y = true ∧ Q (.bl (decide (x = y))) H
def rNe : R2 := fun x y H Q => scal x y = true ∧ Q (.bl (!decide (x = y))) H

theorem dec_int {i j : Int} : decide (V.int i = V.int j) = (i == j) := by
  rw [Bool.eq_iff_iff]
  simp
theorem dec_bl {i j : Bool} : decide (V.bl i = V.bl j) = (i == j) := by
  rw [Bool.eq_iff_iff]
  simp
theorem dec_str {i j : Str} : decide (V.str i = V.str j) = (i == j) := by
  rw [Bool.eq_iff_iff]
  simp
theorem dec_byt {i j : Array UInt8} : decide (V.byt i = V.byt j) = (i.toList == j.toList) := by
  rw [Bool.eq_iff_iff]
  cases i
  cases j
  simp

section
variable {X : Cx} {a b c : Expr} {ta tb tc : TE} {pos : Pos}
theorem fin_bl {pins : List (Addr × Obj)} {σ : St} {H : Hp} {s : Shared} {Q : VK} {k k' : Bool} (I : Inv X pins σ H s) (q : Q (.bl k) H) (e : k = k') : EP X pins σ Q (.bool k') s := by
  subst e
  exact ⟨.bl k, H, I, rfl, q⟩
theorem op_eq : OpR X (compareOp .Eq) rEq := by
  intro pins s σ H x y v u Q I rx ry h
  obtain ⟨hs, q⟩ := h
  cases x with
  | non =>
    cases rx
    cases y with
    | non => cases ry; exact PySem.EqNone.eq_none_none (fin_bl I q (by simp))
    | bl j => cases ry; exact PySem.EqNone.eq_none_bool (fin_bl I q (by simp))
    | int j => obtain ⟨t', rfl⟩ := ry; exact PySem.EqNone.eq_none_int (fin_bl I q (by simp))
    | str j => obtain ⟨t', rfl⟩ := ry; exact PySem.EqNone.eq_none_str (fin_bl I q (by simp))
    | _ => exact absurd (show false = true from hs) Bool.false_ne_true
  | bl i =>
    cases rx
    cases y with
    | non => cases ry; exact PySem.EqNone.eq_bool_none (fin_bl I q (by simp))
    | bl j => cases ry; exact eq_bool (fin_bl I q dec_bl)
    | str j => obtain ⟨t', rfl⟩ := ry; exact PySem.EqMixed.eq_bool_str (fin_bl I q (by simp))
    | _ => exact absurd (show false = true from hs) Bool.false_ne_true
  | int i =>
    obtain ⟨t, rfl⟩ := rx
    cases y with
    | non => cases ry; exact PySem.EqNone.eq_int_none (fin_bl I q (by simp))
    | int j => obtain ⟨t', rfl⟩ := ry; exact eq_int (fin_bl I q dec_int)
    | str j => obtain ⟨t', rfl⟩ := ry; exact PySem.EqMixed.eq_int_str (fin_bl I q (by simp))
    | _ => exact absurd (show false = true from hs) Bool.false_ne_true
  | str i =>
    obtain ⟨t, rfl⟩ := rx
    cases y with
    | non => cases ry; exact PySem.EqNone.eq_str_none (fin_bl I q (by simp))
    | bl j => cases ry; exact PySem.EqMixed.eq_str_bool (fin_bl I q (by simp))
    | int j => obtain ⟨t', rfl⟩ := ry; exact PySem.EqMixed.eq_str_int (fin_bl I q (by simp))
    | str j => obtain ⟨t', rfl⟩ := ry; exact eq_str (fin_bl I q dec_str)
    | _ => exact absurd (show false = true from hs) Bool.false_ne_true
  | byt i =>
    obtain ⟨t, rfl⟩ := rx
    cases y with
    | byt j => obtain ⟨t', rfl⟩ := ry; exact PySem.W.eq_bytes (fin_bl I q dec_byt)
    | _ => exact absurd (show false = true from hs) Bool.false_ne_true
  | _ => cases y <;> exact absurd (show false = true from hs) Bool.false_ne_true
theorem op_ne : OpR X (compareOp .NotEq) rNe := by
  intro pins s σ H x y v u Q I rx ry h
  obtain ⟨hs, q⟩ := h
  cases x with
  | non =>
    cases rx
    cases y with
    | non => cases ry; exact PySem.EqNone.ne_none_none (fin_bl I q (by simp))
    | bl j => cases ry; exact PySem.EqNone.ne_none_bool (fin_bl I q (by simp))
    | int j => obtain ⟨t', rfl⟩ := ry; exact PySem.EqNone.ne_none_int (fin_bl I q (by simp))
    | str j => obtain ⟨t', rfl⟩ := ry; exact PySem.EqNone.ne_none_str (fin_bl I q (by simp))
    | _ => exact absurd (show false = true from hs) Bool.false_ne_true
  | bl i =>
    cases rx
    cases y with
    | non => cases ry; exact PySem.EqNone.ne_bool_none (fin_bl I q (by simp))
    | bl j => cases ry; exact ne_bool (fin_bl I q (congrArg not dec_bl))
    | str j => obtain ⟨t', rfl⟩ := ry; exact PySem.EqMixed.ne_bool_str (fin_bl I q (by simp))
    | _ => exact absurd (show false = true from hs) Bool.false_ne_true
  | int i =>
    obtain ⟨t, rfl⟩ := rx
    cases y with
    | non => cases ry; exact PySem.EqNone.ne_int_none (fin_bl I q (by simp))
    | int j => obtain ⟨t', rfl⟩ := ry; exact ne_int (fin_bl I q (congrArg not dec_int))
    | str j => obtain ⟨t', rfl⟩ := ry; exact PySem.EqMixed.ne_int_str (fin_bl I q (by simp))
    | _ => exact absurd (show false = true from hs) Bool.false_ne_true
  | str i =>
    obtain ⟨t, rfl⟩ := rx
    cases y with
    | non => cases ry; exact PySem.EqNone.ne_str_none (fin_bl I q (by simp))
    | bl j => cases ry; exact PySem.EqMixed.ne_str_bool (fin_bl I q (by simp))
    | int j => obtain ⟨t', rfl⟩ := ry; exact PySem.EqMixed.ne_str_int (fin_bl I q (by simp))
    | str j => obtain ⟨t', rfl⟩ := ry; exact ne_str (fin_bl I q (congrArg not dec_str))
    | _ => exact absurd (show false = true from hs) Bool.false_ne_true
  | byt i =>
    obtain ⟨t, rfl⟩ := rx
    cases y with
    | byt j => obtain ⟨t', rfl⟩ := ry; exact PySem.W.ne_bytes (fin_bl I q (congrArg not dec_byt))
    | _ => exact absurd (show false = true from hs) Bool.false_ne_true
  | _ => cases y <;> exact absurd (show false = true from hs) Bool.false_ne_true

theorem op_lt : OpR X (compareOp .Lt) (rI0 fun i j => .bl (decide (i < j))) := opB0 fun _ _ _ _ _ _ _ q => lt_int q
theorem op_gt : OpR X (compareOp .Gt) (rI0 fun i j => .bl (decide (j < i))) := opB0 fun _ _ _ _ _ _ _ q => gt_int q
/-- is None, is not None: the right side a value none -/
theorem op_isN : OpR X (compareOp .Is) (fun x y H Q => y = .non ∧ Q (.bl (decide (x = .non))) H) := by
  intro pins s σ H x y v u Q I rx ry h
  obtain ⟨rfl, q⟩ := h
  cases ry
  refine is_none_gen (fin_bl I q ?_)
  cases x <;> first
    | (cases rx; rfl)
    | (obtain ⟨t, rfl⟩ := rx; rfl)
/-- is, is not of two objects that are tracked lists or instances -/
def isObj : HO → Bool
  | .lst _ => true
  | .ins _ _ _ => true
  | _ => false
/-- two rules for one operation: by cases -/
theorem OpR.or {f : Value → Value → Sem Value} {r r' : R2} (h : OpR X f r) (h' : OpR X f r') : OpR X f (fun x y H Q => r x y H Q ∨ r' x y H Q) := by
  intro pins s σ H x y v u Q I rx ry q
  rcases q with q | q
  · exact h pins s σ H x y v u Q I rx ry q
  · exact h' pins s σ H x y v u Q I rx ry q

theorem nomark (b : Expr) {op : CmpOp} (h : op ≠ .In := by decide) (h2 : op ≠ .NotIn := by decide) : behindInMarks op b = false := by
  have e1 : (op == CmpOp.In) = false := by cases op <;> first | rfl | exact absurd rfl h
  have e2 : (op == CmpOp.NotIn) = false := by cases op <;> first | rfl | exact absurd rfl h2
  cases b <;> simp [behindInMarks, e1, e2]
/-- a comparison as a value; hm: nomark b, or (for in, not in) by with_unfolding_all rfl -/
theorem pe_cmpR {op : CmpOp} {r : R2} (ho : OpR X (compareOp op) r) (ha : PE X a ta) (hb : PE X b tb) (hm : behindInMarks op b = false) : PE X (.Compare a [op] [b] pos) (tOp r ta tb) := by
  intro pins s σ H Q I h
  exact wpAny_Compare1 (binT ha hb I h fun v u s2 x y H2 I2 rx ry q => ho pins s2 σ H2 x y v u Q I2 rx ry q) hm
/-- a reading of a value as a test -/
def tTest (t : TE) : TT := fun σ H Q => t σ H fun x H' => ∃ k, x = .bl k ∧ Q k H'
theorem pt_cmpR {op : CmpOp} {r : R2} (ho : OpR X (compareOp op) r) (ha : PE X a ta) (hb : PE X b tb) (hm : behindInMarks op b = false) : PT X (.Compare a [op] [b] pos) (tTest (tOp r ta tb)) := by
  intro pins s σ H Q I h
  refine wpAny_isTrue_Compare1 (thn (ha pins s σ H _ I h) fun v s1 ⟨x, H1, I1, r1, q1⟩ => thn (hb pins s1 σ H1 _ I1 q1) fun u s2 ⟨y, H2, I2, r2, q2⟩ =>
    thn (ho pins s2 σ H2 x y v u _ I2 r1 r2 q2) fun c s3 ⟨z, H3, I3, r3, k, e, q3⟩ => ?_) hm
  subst e
  cases r3
  exact wpAny_truthy_bool ⟨H3, I3, q3⟩
/-- a op1 b op2 c -/
def tChain (r r' : R2) (ta tb tc : TE) : TE := fun σ H Q => ta σ H fun x H1 => tb σ H1 fun y H2 => r x y H2 fun z H3 => ∃ k, z = .bl k ∧
  (if k = true then tc σ H3 fun w' H4 => r' y w' H4 Q else Q (.bl false) H3)
/-! ### truth -/
/-- a value's truth by the abstract heap -/
def TruV (K : PySem.W.Frag) (x : V) (H : Hp) (k : Bool) : Prop :=
  match x with
  | .non => k = false
  | .bl b => k = b
  | .int i => k = (i != 0)
  | .str y => y.length ≤ sizeLine ∧ k = ((y.length : Int) != 0)
  | .byt y => y.size ≤ sizeLine ∧ k = ((y.size : Int) != 0)
  | .ref p => (∃ xs, SqL K H p xs ∧ k = !xs.isEmpty) ∨ (∃ xs, SqT K H p xs ∧ k = !xs.isEmpty) ∨ ∃ kvs, H p = some (.dK kvs) ∧ k = !kvs.isEmpty
  | _ => False
theorem line63 : (sizeLine : Nat) < 2 ^ 63 := by rw [sizeLine_eq]; decide
/-! ### strs and bytes -/
theorem op_add_str : OpR X (binaryOp .Add) (fun x y H Q => ∃ i j, x = .str i ∧ y = .str j ∧ i.length + j.length ≤ sizeLine ∧ Q (.str (i ++ j)) H) := by
  intro pins s σ H x y v u Q I rx ry h
  obtain ⟨i, j, rfl, rfl, hz, q⟩ := h
  obtain ⟨t, rfl⟩ := rx
  obtain ⟨t', rfl⟩ := ry
  exact add_str (fun t' tk => ⟨.str (i ++ j), H, I.tok _, ⟨_, rfl⟩, q⟩) hz
def PlainIxT (b : Expr) : Prop := ∀ o i, subscripted b false o i = operate [o, i] (getItem o i)
/-! ### scalar builtins, by CallR -/
theorem vals1 {x : V} {us : List Value} (r : Vals [x] us) : ∃ u, us = [u] ∧ RelV x u := by
  cases r with
  | cons r1 r2 => cases r2; exact ⟨_, rfl, r1⟩
theorem vals2 {x y : V} {us : List Value} (r : Vals [x, y] us) : ∃ u w', us = [u, w'] ∧ RelV x u ∧ RelV y w' := by
  cases r with
  | cons r1 r2 =>
    cases r2 with
    | cons r3 r4 => cases r4; exact ⟨_, _, rfl, r1, r3⟩
theorem call_abs : CallR X (.builtin "abs") (fun xs H Q => ∃ i, xs = [.int i] ∧ Q (.int (if i < 0 then -i else i)) H) := by
  intro pins s σ H xs us Q I r h
  obtain ⟨i, rfl, q⟩ := h
  obtain ⟨u, rfl, t, rfl⟩ := vals1 r
  exact call_abs_int fun u tk => ⟨.int (if i < 0 then -i else i), H, I.tok _, ⟨_, rfl⟩, q⟩
theorem call_min2 (hc : X.calm = true) : CallR X (.builtin "min") (fun xs H Q => ∃ i j, xs = [.int i, .int j] ∧ Q (.int (if j < i then j else i)) H) := by
  intro pins s σ H xs us Q I r h
  obtain ⟨i, j, rfl, q⟩ := h
  obtain ⟨u, w', rfl, ⟨t, rfl⟩, ⟨t', rfl⟩⟩ := vals2 r
  refine min_two_ints (I.ok.hd hc) fun h' tk k => ⟨_, H, I.kept k, ?_, q⟩
  by_cases hj : j < i
  · rw [if_pos hj, if_pos hj]; exact ⟨_, rfl⟩
  · rw [if_neg hj, if_neg hj]; exact ⟨_, rfl⟩
/-- len of a str, a bytes, a list, a tuple -/
def LenV (K : PySem.W.Frag) (x : V) (H : Hp) (n : Nat) : Prop :=
  match x with
  | .str y => y.length ≤ sizeLine ∧ n = y.length
  | .byt y => y.size ≤ sizeLine ∧ n = y.size
  | .ref p => (∃ xs, SqL K H p xs ∧ n = xs.length) ∨ ∃ xs, SqT K H p xs ∧ n = xs.length
  | _ => False
end
end L2

namespace L2
open PySem PySem.Spec PyProof.Rows

/-! ### an instance, its attributes a map -/
structure ObjM (h : Heap) (x dx C : Addr) (mA : Str → Option Value) : Prop where
  obj : h.get? x = some (PySem.W.instObj C dx)
  ns : h.Ns1 dx mA
  ne : dx ≠ x

theorem lookIn_ns {h : Heap} {dx : Addr} {mA : Str → Option Value} (n : h.Ns1 dx mA) : ∃ od, h.get? dx = some od ∧ ∀ name, PySem.W.lookIn name od = some (mA name) := by
  obtain ⟨o, es, ep, ho, hd, hk, _, hm⟩ := n
  refine ⟨o, ho, fun name => ?_⟩
  have e := hm name
  unfold nsFind findBy at e
  rw [← Array.find?_toList] at e
  unfold PySem.W.lookIn
  rw [hd]
  dsimp only
  split
  · rename_i y q
    rw [q] at e
    exact congrArg some e
  · rename_i q
    rw [q] at e
    have a : es.toList.any (·.refKey) = false := by
      rw [List.any_eq_false]
      intro y hy
      obtain ⟨z, t, hkey⟩ := hk y (Array.mem_toList_iff.mp hy)
      simp [DictEntry.refKey, hkey]
    have a' : ¬ es.toList.any (·.refKey) = true := by rw [a]; exact Bool.false_ne_true
    rw [if_neg a']
    exact congrArg some e

theorem ObjM.look {h : Heap} {x dx C : Addr} {mA : Str → Option Value} (I : ObjM h x dx C mA) : ∃ od, PySem.W.InstAt h x (PySem.W.instObj C dx) C (some od) ∧ ∀ name, PySem.W.lookIn name od = some (mA name) :=
  let ⟨od, ho, hl⟩ := lookIn_ns I.ns
  ⟨od, ⟨I.obj, rfl, rfl, ho⟩, hl⟩

section
variable {prog : Program} {w : World} {A : Around} {E : Value → Shared → Prop} {s : Shared} {K : PySem.W.Frag} {x dx C f : Addr} {mA : Str → Option Value} {name : Str} {v : Value}

end

/-! ### the attributes as a list of pairs -/
def putF (f : Str) (v : V) : List (Str × V) → List (Str × V)
  | [] => [(f, v)]
  | (g, x) :: r => if g = f then (g, v) :: r else (g, x) :: putF f v r
section
variable {P : Program} {w : World} {H H' : Hp} {h h' : Heap} {a C dx : Addr} {fs fs' : List (Str × V)}
theorem ins_get (hok : HOk P w H h) (e : H a = some (.ins C dx fs)) : ∃ mA, ObjM h a dx C mA ∧ (∀ f, RelO (fs.lookup f) (mA f)) ∧ PySem.Within mA (fs.map (·.1)) ∧ fs.length ≤ 1000 ∧ H dx = some (.own a) := by
  obtain ⟨d, z, ne, ob, mA, n, r, q⟩ := (show ObjOk P w H h a (.ins C dx fs) from hok a _ e)
  exact ⟨mA, ⟨ob, n, ne⟩, r, q, z, d⟩
end

/-! ### what of the text a class must have -/
structure Cls (K : PySem.W.Frag) (C : Addr) : Prop where
  pg : PySem.W.plainGet K C Str.empty = true
  hd : PySem.W.hasDictIn K C = true
  po : PySem.W.plainOver K C = true
  sa : PySem.W.findIn K (.ref C) "__setattr__" = some (some (.builtin "object.__setattr__"))
theorem Cls.get {K : PySem.W.Frag} {C : Addr} (c : Cls K C) (f : Str) : PySem.W.plainGet K C f = true := c.pg
/-- no class of it has the name -/
def NoAttr (K : PySem.W.Frag) (C : Addr) (f : Str) : Prop := PySem.W.findIn K (.ref C) f = some none
/-- a constant of the class -/
structure Con (K : PySem.W.Frag) (C : Addr) (f : Str) (v : V) (u : Value) : Prop where
  at_ : PySem.W.findIn K (.ref C) f = some (some u)
  rel : RelV v u
  get : PySem.W.specialIn K u "__get__" = some none
  cp : PySem.W.copiedNames.contains f = false
/-- a method: a plain def of the class or of one above it -/
structure Meth (K : PySem.W.Frag) (C : Addr) (m : Str) (f : Addr) : Prop where
  at_ : PySem.W.findIn K (.ref C) m = some (some (.ref f))
  fn : PySem.W.isFn K (.ref f) = true
  kp : PySem.W.keepIn K (.ref f) = true

section
variable {X : Cx} {pins : List (Addr × Obj)} {σ : St} {H : Hp} {s : Shared} {a C dx : Addr} {fs : List (Str × V)} {f : Str} {v : V} {A : Around} {E : Value → Shared → Prop}

end

/-! ### readings and rules -/
/-- e.f, an attribute of the instance -/
def tFld (K : PySem.W.Frag) (ta : TE) (f : Str) : TE := fun σ H Q => ta σ H fun x H1 => ∃ a C dx fs v, x = .ref a ∧ H1 a = some (.ins C dx fs) ∧ Cls K C ∧ NoAttr K C f ∧ fs.lookup f = some v ∧ Q v H1
/-- e.f, a constant of the class -/
def tCon (K : PySem.W.Frag) (ta : TE) (f : Str) : TE := fun σ H Q => ta σ H fun x H1 => ∃ a C dx fs v u, x = .ref a ∧ H1 a = some (.ins C dx fs) ∧ Cls K C ∧ Con K C f v u ∧ fs.lookup f = none ∧ Q v H1
/-- e.f = value -/
def sFld (K : PySem.W.Frag) (ta tv : TE) (f : Str) : TS := fun D σ H => tv σ H fun y H1 => ta σ H1 fun x H2 => ∃ a C dx fs, x = .ref a ∧ H2 a = some (.ins C dx fs) ∧ Cls K C ∧ NoAttr K C f ∧ fs.length < 1000 ∧
  D.nx σ (upd H2 a (.ins C dx (putF f y fs)))
/-- an augmented operator on two values -/
def InOp (X : Cx) (op : Operator) (rd : V → V → Hp → VK → Prop) : Prop :=
  ∀ (pins : List (Addr × Obj)) (s : Shared) (σ : St) (H : Hp) (x y : V) (u v : Value) (Q : VK), Inv X pins σ H s → RelV x u → RelV y v → rd x y H Q → wpAny (model X.prog X.w) X.A (inplaceOp op u v) (EP X pins σ Q) X.xe s
/-- e.f op= value -/
def sFldAug (K : PySem.W.Frag) (ta tv : TE) (rd : V → V → Hp → VK → Prop) (f : Str) : TS := fun D σ H => ta σ H fun x H1 => ∃ a C dx fs v, x = .ref a ∧ H1 a = some (.ins C dx fs) ∧ Cls K C ∧ NoAttr K C f ∧ fs.lookup f = some v ∧
  tv σ H1 fun y H2 => rd v y H2 fun z H3 => ∃ dx' fs', H3 a = some (.ins C dx' fs') ∧ fs'.length < 1000 ∧ D.nx σ (upd H3 a (.ins C dx' (putF f z fs')))

section
variable {X : Cx} {o e value : Expr} {f : Str} {pos pos' tpos : Pos} {ta tv : TE}
def rAdd : V → V → Hp → VK → Prop := fun x y H Q => ∃ i j, x = .int i ∧ y = .int j ∧ Q (.int (i + j)) H
def rSub : V → V → Hp → VK → Prop := fun x y H Q => ∃ i j, x = .int i ∧ y = .int j ∧ Q (.int (i - j)) H
end

/-! ### isinstance -/
section
variable {X : Cx} {pins : List (Addr × Obj)} {σ : St} {H : Hp} {s : Shared} {A : Around} {E : Value → Shared → Prop} {Q : Value → Shared → Prop} {c : Value} {b : Bool}
/-- the type of a value, as the fragment's deciders take it; for an instance its class -/
inductive TyOf (K : PySem.W.Frag) (H : Hp) : V → Value → Prop where
  | non : TyOf K H .non (.type "NoneType")
  | bl (x : Bool) : TyOf K H (.bl x) (.type "bool")
  | int (i : Int) : TyOf K H (.int i) (.type "int")
  | str (x : Str) : TyOf K H (.str x) (.type "str")
  | flt (x : UInt64) : TyOf K H (.flt x) (.type "float")
  | lst {a : Addr} {xs : List V} (e : H a = some (.lst xs)) : TyOf K H (.ref a) (.type "list")
  | frz {a : Addr} {o : Obj} {xs : List V} (e : H a = some (.frz o (.lst xs))) : TyOf K H (.ref a) (.type "list")
  | tup {a : Addr} {xs : List V} (e : H a = some (.tup xs)) : TyOf K H (.ref a) (.type "tuple")
  | dK {a : Addr} {kvs : List (Key × V)} (e : H a = some (.dK kvs)) : TyOf K H (.ref a) (.type "dict")
  | dT {a : Addr} {kvs : List (List Key × V)} (e : H a = some (.dT kvs)) : TyOf K H (.ref a) (.type "dict")
  | ins {a C dx : Addr} {fs : List (Str × V)} (e : H a = some (.ins C dx fs)) (cl : Cls K C) (ha : PySem.W.findIn K (.ref C) "__class__" = some (some (.builtin "object.__class__")))
      (hn : PySem.W.specialIn K (.builtin "object.__class__") "__get__" = some (some (.builtin "getset_descriptor.__get__"))) (htk : PySem.W.takesIn K (.builtin "object.__class__") = some true)
      (hm : PySem.W.mroIn K C (.type "object") = some true) : TyOf K H (.ref a) (.ref C)
/-- isinstance(x, c) for one class c, a built-in or an own one: kitOne's answer -/
theorem isinst_ok {x : V} {u t : Value} (I : Inv X pins σ H s) (rx : RelV x u) (ty : TyOf X.K H x t) (e : PySem.W.kitOne X.K t c = some b) (h : ∀ tk, Q (.bool b) { s with toks := tk }) :
    wpAny (model X.prog X.w) A (call (.builtin "isinstance") [u, c]) Q E s := by
  cases ty with
  | non => cases (show u = Value.none from rx); exact PySem.W.kia_one PySem.W.kitx_none I.kIn True.intro e (fun z => nomatch z) h
  | bl y => cases (show u = Value.bool y from rx); exact PySem.W.kia_one PySem.W.kitx_bool I.kIn True.intro e (fun z => nomatch z) h
  | int i => obtain ⟨t, q⟩ := (show ∃ t, u = Value.int i t from rx); cases q; exact PySem.W.kia_one PySem.W.kitx_int I.kIn True.intro e (fun z => nomatch z) h
  | str y => obtain ⟨t, q⟩ := (show ∃ t, u = Value.str y t from rx); cases q; exact PySem.W.kia_one PySem.W.kitx_str I.kIn True.intro e (fun z => nomatch z) h
  | flt y => obtain ⟨t, q⟩ := (show ∃ t, u = Value.float y t from rx); cases q; exact PySem.W.kia_one PySem.W.kitx_float I.kIn True.intro e (fun z => nomatch z) h
  | @lst a xs ea =>
    cases (show u = Value.ref a from rx)
    obtain ⟨_, _, n, _, h1⟩ := (show ObjOk X.prog X.w H s.heap a (.lst xs) from I.hok a _ ea)
    exact PySem.W.kia_one PySem.W.kitx_list I.kIn ⟨_, h1, rfl⟩ e (fun z => nomatch z) h
  | @frz a ob xs ea =>
    cases (show u = Value.ref a from rx)
    obtain ⟨_, _, _, n, _, h1⟩ := (show ObjOk X.prog X.w H s.heap a (.frz ob (.lst xs)) from I.hok a _ ea)
    exact PySem.W.kia_one PySem.W.kitx_list I.kIn ⟨_, h1, rfl⟩ e (fun z => nomatch z) h
  | @tup a xs ea =>
    cases (show u = Value.ref a from rx)
    obtain ⟨_, _, _, p⟩ := (show ObjOk X.prog X.w H s.heap a (.tup xs) from I.hok a _ ea)
    obtain ⟨o, h1, h2, _⟩ := p
    exact PySem.W.kia_one PySem.W.kitx_tuple I.kIn ⟨o, h1, h2⟩ e (fun z => nomatch z) h
  | @dK a kvs ea =>
    cases (show u = Value.ref a from rx)
    obtain ⟨_, _, vs, _, p⟩ := (show ObjOk X.prog X.w H s.heap a (.dK kvs) from I.hok a _ ea)
    obtain ⟨o, es, ep, h1, h2, _⟩ := p
    exact PySem.W.kia_one PySem.W.kitx_dict I.kIn ⟨o, h1, h2.1⟩ e (fun z => nomatch z) h
  | @dT a kvs ea =>
    cases (show u = Value.ref a from rx)
    obtain ⟨_, _, xs, _, o, es, ep, h1, h2, _⟩ := (show ObjOk X.prog X.w H s.heap a (.dT kvs) from I.hok a _ ea)
    exact PySem.W.kia_one PySem.W.kitx_dict I.kIn ⟨o, h1, h2.1⟩ e (fun z => nomatch z) h
  | @ins a C dx fs ea cl ha hn htk hm =>
    cases (show u = Value.ref a from rx)
    obtain ⟨mA, O, _⟩ := ins_get I.hok ea
    obtain ⟨od, J, _⟩ := O.look
    exact PySem.W.kia_one (PySem.W.kitx_own (cl.get _) cl.hd ha hn htk hm) I.kIn J e (fun z => nomatch z) h
end
end L2

namespace L2
open PySem PySem.Spec PyProof.Rows

/-! ### room -/
structure Room (k : Nat) (A : Around) : Prop where
  hd : A.handled = none
  dp : A.depth + 3 * k + 5 < recursionLimit
  un : A.units + 16 * k + 200 < cLine
theorem Room.mono {j k : Nat} {A : Around} (r : Room k A) (h : j ≤ k) : Room j A := ⟨r.hd, by have := r.dp; omega, by have := r.un; omega⟩
theorem Room.deeper {k : Nat} {A : Around} (r : Room (k + 1) A) (env : Env) : Room k (A.deeper env) :=
  ⟨r.hd, by have := r.dp; show A.depth + 1 + 3 * k + 5 < _; omega, by have := r.un; show A.units + 3 + 16 * k + 200 < _; omega⟩
theorem Room.depth {k : Nat} {A : Around} (r : Room k A) : A.depth < recursionLimit := by have := r.dp; omega
theorem Room.units {k : Nat} {A : Around} (r : Room k A) : A.units + 64 < cLine := by have := r.un; omega
theorem Room.units0 {k : Nat} {A : Around} (r : Room k A) : A.units < cLine := by have := r.un; omega

/-! ### argument lists and displays -/
def tNil : TA := fun _ H Q => Q [] H
def tCons (ta : TE) (tr : TA) : TA := fun σ H Q => ta σ H fun x H1 => tr σ H1 fun xs H2 => Q (x :: xs) H2
section
variable {X : Cx} {e : Expr} {es : List Expr} {te : TE} {t : TA} {pos : Pos}
theorem pa_nil : PA X [] tNil := fun _ _ _ _ H Q I h => Calls.spliced_nil ⟨[], H, I, .nil, h⟩
theorem pa_cons (ha : PE X e te) (hr : PA X es t) (hs : starEach (e :: es) X.env = (false, eval e X.env) :: starEach es X.env := by rfl) : PA X (e :: es) (tCons te t) := by
  intro pos pins s σ H Q I h
  rw [hs]
  show wpAny _ _ (spliced ((false, eval e X.env) :: backTo pos (starEach es X.env))) _ _ s
  refine Calls.spliced_cons (thn (ha pins s σ H _ I h) fun u s1 ⟨x, H1, I1, r1, q1⟩ => ?_)
  exact thn (hr pos pins s1 σ H1 _ I1 q1) fun us s2 ⟨xs, H2, I2, r2, q2⟩ => ⟨x :: xs, H2, I2, .cons r1 r2, q2⟩

/-- a tuple, a list of written items -/
def tTup (t : TA) : TE := fun σ H Q => t σ H fun xs H1 => xs.length ≤ sizeLine ∧ ∀ p, H1 p = none → Q (.ref p) (upd H1 p (.tup xs))
def tLst (t : TA) : TE := fun σ H Q => t σ H fun xs H1 => xs.length ≤ sizeLine ∧ ∀ p, H1 p = none → Q (.ref p) (upd H1 p (.lst xs))
theorem pe_tup {x1} (h : PA X es t) : PE X (.Tuple es x1 pos) (tTup t) := by
  intro pins s σ H Q I hq
  refine wpAny_Tuple_spliced (thn (h pos pins s σ H _ I hq) fun us s1 ⟨xs, H1, I1, r, z, q⟩ => ⟨by rw [← r.length]; exact z, ?_⟩)
  have hf : H1 s1.heap.objs.size = none := I1.hok.fresh (Nat.le_refl _)
  refine ⟨.ref s1.heap.objs.size, upd H1 s1.heap.objs.size (.tup xs), I1.laid (t' := s1.toks) (fun b u e => Heap.get?_push_of_some _ e) (Nat.le_refl _) ?_, rfl, q _ hf⟩
  exact ⟨z, us, r, ⟨_, Heap.get?_push_size _ rfl, rfl, _, rfl⟩⟩
theorem pe_lst (h : PA X es t) : PE X (.List es pos) (tLst t) := by
  intro pins s σ H Q I hq
  refine wpAny_List_spliced (thn (h pos pins s σ H _ I hq) fun us s1 ⟨xs, H1, I1, r, z, q⟩ => ⟨by rw [← r.length]; exact z, ?_⟩)
  have hf : H1 s1.heap.objs.size = none := I1.hok.fresh (Nat.le_refl _)
  refine ⟨.ref s1.heap.objs.size, upd H1 s1.heap.objs.size (.lst xs), I1.laid (t' := s1.toks) (fun b u e => Heap.get?_push_of_some _ e) (Nat.le_refl _) ?_, rfl, q _ hf⟩
  exact ⟨z, us, 0, r, Heap.get?_push_size _ rfl⟩
end

/-! ### what a def promises -/
/-- a def's promise: the bound arguments in the parameters' order, the heap, the wanted end, the wanted exception -/
abbrev Sp := List V → Hp → VK → XK → Prop
/-- how an exception lies behind a call (file 08 gives it): the callers' frames, abstract heap and state ahead of the call, the wish, the exception, the state -/
abbrev CXT := List Env → Hp → Shared → XK → Value → Shared → Prop

/-- the state at a call -/
structure Env0 (P : Program) (w : World) (K : PySem.W.Frag) (mg : Str → Option Value) (base : Heap) (A : Around) (outer : List Env) (s : Shared) (H : Hp) : Prop where
  frames : A.frames = some outer
  mod : Mod K mg base
  bs : ∀ b o, base.get? b = some o → s.heap.get? b = some o ∧ H b = none
  bsz : base.objs.size ≤ s.heap.objs.size
  funs : s.heap.FunFrames base outer
  frf : ∀ b ∈ frs outer, H b = none
  hok : HOk P w H s.heap
  bare : AllBare s.gens
/-- a call's end -/
def CE (outer : List Env) (P : Program) (w : World) (H : Hp) (s : Shared) (Q : VK) (u : Value) (s' : Shared) : Prop :=
  ∃ v H', s'.os = s.os ∧ AllBare s'.gens ∧ Un (frs outer) [] H H' s.heap s'.heap ∧ HOk P w H' s'.heap ∧ RelV v u ∧ Q v H'
def CR (CX : CXT) (outer : List Env) (P : Program) (w : World) (H : Hp) (s : Shared) (Q : VK) (E : XK) (r : Result) (s' : Shared) : Prop :=
  match r with
  | .ok (.ret u) => CE outer P w H s Q u s'
  | .ok _ => False
  | .error e => CX outer H s E e s'
structure FnOk (P : Program) (w : World) (K : PySem.W.Frag) (mg : Str → Option Value) (base : Heap) (CX : CXT) (k : Nat) (f : Addr) (fd : FuncData) (ps : List Str) (sp : Sp) : Prop where
  len : ∀ vs H Q E, sp vs H Q E → vs.length = ps.length
  run : ∀ (A : Around) (outer : List Env) (s : Shared) (H : Hp) (args : Args) (us : List Value) (vs : List V) (Q : VK) (E : XK), Room k A → Env0 P w K mg base A outer s H → BindsTo s fd args (ps.zip us) → Vals vs us → sp vs H Q E →
    codeAny (model P w) A (.call (.ref f) args) (CR CX outer P w H s Q E) s
section
variable {X : Cx} {pins : List (Addr × Obj)} {σ : St} {H : Hp} {s s' : Shared}
/-- from a body: what a callee wants -/
theorem Inv.env0 (I : Inv X pins σ H s) : Env0 X.prog X.w X.K X.mg X.base X.A X.stack s H :=
  ⟨I.ok.frames, I.ok.mod, I.bs, Nat.le_trans I.ok.bsz I.sz, I.stack, I.stkFree, I.hok, I.bare⟩
/-- behind a call -/
theorem Inv.after {Q : VK} {u : Value} (I : Inv X pins σ H s) (h : CE X.stack X.prog X.w H s Q u s') : EP X pins σ Q u s' := by
  obtain ⟨v, H', os, bare, un, hok, r, q⟩ := h
  obtain ⟨hh, g, d, t, os'⟩ := s'
  obtain rfl : os' = s.os := os
  exact ⟨v, H', I.call (h' := hh) (g' := g) (d' := d) (t' := t) (ch := []) un hok bare (fun b z => absurd z (by simp)), r, q⟩
end

/-! ### calls -/
/-- f(..): the written arguments, then the defaults dvs; E: what is wanted of an exception -/
def tCall (sp : Sp) (dvs : List V) (E : XK) (t : TA) : TE := fun σ H Q => t σ H fun vs H1 => sp (vs ++ dvs) H1 Q E
/-- o.m(..) of an instance of the class at C -/
def tMeth (C : Addr) (m : Str) (sp : Sp) (dvs : List V) (E : XK) (ta : TE) (t : TA) : TE := fun σ H Q => ta σ H fun x H1 => ∃ a dx fs, x = .ref a ∧ H1 a = some (.ins C dx fs) ∧ fs.lookup m = none ∧
  t σ H1 fun vs H2 => sp (x :: (vs ++ dvs)) H2 Q E
/-- C(..): a new instance and its dict, then __init__ -/
def tMake (C : Addr) (sp : Sp) (dvs : List V) (E : XK) (t : TA) : TE := fun σ H Q => t σ H fun vs H1 => ∀ x dx, H1 x = none → H1 dx = none → dx ≠ x →
  sp (.ref x :: (vs ++ dvs)) (upd (upd H1 dx (.own x)) x (.ins C dx [])) (fun v H2 => v = .non ∧ Q (.ref x) H2) E

/-- how the parameters are bound: us the positional arguments, kw the keywords' values by name, ds the defaults that fill up -/
def Binds (K : PySem.W.Frag) (fd : FuncData) (ps : List Str) (ds : List Value) : Prop :=
  ∀ (s : Shared) (us : List Value), K.In s.heap → (us ++ ds).length = ps.length → BindsTo s fd ⟨us, []⟩ (ps.zip (us ++ ds))
/-- every parameter is given -/
theorem Binds.all {K : PySem.W.Frag} {fd : FuncData} {ps : List Str} (h : ∀ us : List Value, us.length = ps.length → bindArgs fd ⟨us, []⟩ = pure (ps.zip us)) : Binds K fd ps [] := fun s us _ hl => by
  rw [List.append_nil] at hl ⊢
  exact .of_eq (h us hl)

/-- an exception of a callee reaches what this body wants of exceptions -/
def Passes (CX : CXT) (X : Cx) (E : XK) : Prop := ∀ (pins : List (Addr × Obj)) (σ : St) (H : Hp) (s : Shared) (e : Value) (s' : Shared), Inv X pins σ H s → CX X.stack H s E e s' → X.xe e s'

section
variable {X : Cx} {CX : CXT} {k : Nat} {f C : Addr} {fd : FuncData} {ps : List Str} {sp : Sp} {dvs : List V} {ds : List Value} {E : XK} {x m : Str} {p pos apos : Pos} {e o : Expr} {es : List Expr} {ta : TE} {t : TA}

/-- what a class must have to be made -/
structure Mk (K : PySem.W.Frag) (C f : Addr) : Prop where
  makes : PySem.W.makesIn K C = true
  init : PySem.W.findIn K (.ref C) "__init__" = some (some (.ref f))
  fn : PySem.W.isFn K (.ref f) = true
  kp : PySem.W.keepIn K (.ref C) = true

end

/-! ### keywords -/
/-- the values of the keywords, from the left -/
def PK (X : Cx) (kws : List Keyword) (t : TA) : Prop :=
  ∀ (pos : Pos) (pins : List (Addr × Obj)) (s : Shared) (σ : St) (H : Hp) (Q : List V → Hp → Prop), Inv X pins σ H s → t σ H Q → wpAny (model X.prog X.w) X.A (evalAll ((backToKw pos (keywordEach kws X.env)).map (·.2))) (AP X pins σ Q) X.xe s
section
variable {X : Cx} {CX : CXT} {k : Nat} {f C : Addr} {fd : FuncData} {ps ks : List Str} {sp : Sp} {E : XK} {x m : Str} {p pos apos kpos : Pos} {e o : Expr} {es : List Expr} {kws : List Keyword} {te ta : TE} {t tk : TA} {nm : Option Str}
/-- how a call with keywords binds: g puts the positional values us and the keywords' values ws (names ks) in the parameters' order, defaults among them -/
structure KBinds (K : PySem.W.Frag) (fd : FuncData) (ps ks : List Str) (g : List Value → List Value → List Value) (gV : List V → List V → List V) : Prop where
  to : ∀ (s : Shared) (us ws : List Value), K.In s.heap → (g us ws).length = ps.length → BindsTo s fd ⟨us, ks.zip ws⟩ (ps.zip (g us ws))
  rel : ∀ {vs : List V} {us : List Value} {zs : List V} {ws : List Value}, Vals vs us → Vals zs ws → Vals (gV vs zs) (g us ws)
def tCallK (sp : Sp) (gV : List V → List V → List V) (E : XK) (t tk : TA) : TE := fun σ H Q => t σ H fun vs H1 => tk σ H1 fun zs H2 => sp (gV vs zs) H2 Q E
variable {g : List Value → List Value → List Value} {gV : List V → List V → List V}
end

/-! ### a def's body keeps its promise -/
/-- names: the parameters first -/
structure FnScope (N P : List Str) (sc : Scope) : Prop where
  kind : sc.kind = .function
  co : sc.isCoroutine = false
  gen : sc.isGenerator = false
  nd : N.Nodup
  pre : N.take P.length = P
  par : ∀ x ∈ P, sc.names.lookup x = some .local ∨ sc.names.lookup x = some .cell
  nofree : ∀ y ∈ sc.names, y.2 ≠ .free

theorem bindL_out {kindOf : Str → Option NameKind} {x : Str} : ∀ {binds : List (Str × Value)} {m : Str → Option Value}, (∀ v, (x, v) ∉ binds) → bindL kindOf binds m x = m x
  | [], _, _ => rfl
  | (n, v) :: r, m, h => by
    unfold bindL
    rw [bindL_out fun w hw => h w (List.mem_cons_of_mem _ hw)]
    split
    · have : x ≠ n := by rintro rfl; exact h v List.mem_cons_self
      simp [this]
    · rfl
theorem bindC_out {kindOf : Str → Option NameKind} {x : Str} : ∀ {binds : List (Str × Value)} {m : Str → Option Value}, (∀ v, (x, v) ∉ binds) → bindC kindOf binds m x = m x
  | [], _, _ => rfl
  | (n, v) :: r, m, h => by
    unfold bindC
    rw [bindC_out fun w hw => h w (List.mem_cons_of_mem _ hw)]
    split
    · rfl
    · have : x ≠ n := by rintro rfl; exact h v List.mem_cons_self
      simp [this]
theorem bindL_get {kindOf : Str → Option NameKind} {x : Str} {v : Value} : ∀ {P : List Str} {vs : List Value} {i : Nat} {m : Str → Option Value}, P.Nodup → P[i]? = some x → vs[i]? = some v → kindOf x = some .local →
    bindL kindOf (P.zip vs) m x = some v
  | [], _, _, _, _, h, _, _ => by simp at h
  | _ :: _, [], _, _, _, _, h, _ => by simp at h
  | p :: P, w :: vs, 0, m, nd, h1, h2, hk => by
    simp at h1 h2; subst h1; subst h2
    show bindL kindOf ((p, w) :: P.zip vs) m p = _
    unfold bindL
    rw [bindL_out fun v hv => (List.nodup_cons.mp nd).1 (List.of_mem_zip hv).1, if_pos hk]
    simp
  | p :: P, w :: vs, i + 1, m, nd, h1, h2, hk => by
    show bindL kindOf ((p, w) :: P.zip vs) m x = _
    unfold bindL
    exact bindL_get (i := i) (List.nodup_cons.mp nd).2 (by simpa using h1) (by simpa using h2) hk
theorem bindC_get {kindOf : Str → Option NameKind} {x : Str} {v : Value} : ∀ {P : List Str} {vs : List Value} {i : Nat} {m : Str → Option Value}, P.Nodup → P[i]? = some x → vs[i]? = some v → kindOf x ≠ some .local →
    bindC kindOf (P.zip vs) m x = some v
  | [], _, _, _, _, h, _, _ => by simp at h
  | _ :: _, [], _, _, _, _, h, _ => by simp at h
  | p :: P, w :: vs, 0, m, nd, h1, h2, hk => by
    simp at h1 h2; subst h1; subst h2
    show bindC kindOf ((p, w) :: P.zip vs) m p = _
    unfold bindC
    rw [bindC_out fun v hv => (List.nodup_cons.mp nd).1 (List.of_mem_zip hv).1, if_neg hk]
    simp
  | p :: P, w :: vs, i + 1, m, nd, h1, h2, hk => by
    show bindC kindOf ((p, w) :: P.zip vs) m x = _
    unfold bindC
    exact bindC_get (i := i) (List.nodup_cons.mp nd).2 (by simpa using h1) (by simpa using h2) hk

/-- the names' values at the entry -/
def start (N : List Str) (vs : List V) : St := vs.map some ++ List.replicate (N.length - vs.length) none

/-- the context of a def's body, at its entry; an exception leaves the frame, then lies as CX says -/
def cxOf (CX : CXT) (P : Program) (w : World) (K : PySem.W.Frag) (mg : Str → Option Value) (base : Heap) (N : List Str) (qual : Str) (scope : Scope) (f : Addr) (cd : Value) (A : Around) (outer : List Env) (s : Shared) (H : Hp) (E : XK) : Cx where
  prog := P
  w := w
  K := K
  mg := mg
  base := base
  A := A.deeper (envOfC qual scope s.heap.objs.size f cd)
  N := N
  s₀ := s
  H₀ := H
  env := envOfC qual scope s.heap.objs.size f cd
  outer := outer
  stack := envOfC qual scope s.heap.objs.size f cd :: outer
  ex := []
  calm := true
  fn := fun _ => true
  pn := []
  xe := fun e s' => wpAny (model P w) (A.deeper (envOfC qual scope s.heap.objs.size f cd)) (leaving (envOfC qual scope s.heap.objs.size f cd) e) (fun _ s'' => CX outer H s E e s'') (fun e' s'' => CX outer H s E e' s'') s'

theorem cell_has {sc : Scope} {n : Nat} {x : Str} (h : sc.names.lookup x = some .cell) : ∃ c, (cellsFrom n sc.names []).lookup x = some c := by
  have q := PySem.W.cellsFrom_some sc.names n [] (.inl h)
  exact Option.isSome_iff_exists.mp q

theorem inv_start {CX : CXT} {P : Program} {w : World} {K : PySem.W.Frag} {mg : Str → Option Value} {base : Heap} {N ps : List Str} {qual : Str} {scope : Scope} {f : Addr} {cd : Value} {A : Around} {outer : List Env} {s s1 : Shared} {H : Hp} {E : XK} {us : List Value} {vs : List V}
    (S : FnScope N ps scope) (hd : A.handled = none) (e0 : Env0 P w K mg base A outer s H) (hl : vs.length = ps.length) (r : Vals vs us)
    (x : InCallC s s.heap.objs.size (bindL (envOfC qual scope s.heap.objs.size f cd).kindOf (ps.zip us) fun _ => none) (cellsFrom (s.heap.objs.size + 1) scope.names []) (bindC (envOfC qual scope s.heap.objs.size f cd).kindOf (ps.zip us) fun _ => none) s1) :
    Inv (cxOf CX P w K mg base N qual scope f cd A outer s H E) [] (start N vs) H s1 := by
  have hpl : ps.length ≤ N.length := by have := congrArg List.length S.pre; rw [List.length_take] at this; omega
  obtain ⟨h1, tk, rfl, hk⟩ := x.done
  have noA : ∀ b : Addr, b ∉ (cxOf CX P w K mg base N qual scope f cd A outer s H E).ex := fun b z => absurd (show b ∈ ([] : List Addr) from z) (by simp)
  refine ⟨⟨e0.mod, S.kind, rfl, rfl, Nat.le_refl _, fun y z c h1 h2 => ?_, fun y hy => ?_, fun y c _ h => ?_, fun _ => hd, Around.frames_deeper e0.frames, .inr ⟨rfl, rfl⟩, fun b z => absurd z (noA b), e0.bs, e0.bsz, fun b _ _ => noA b, fun b z => absurd z (noA b), e0.funs, e0.frf⟩,
    rfl, e0.bare, Un.kept hk, ⟨_, x.toInCall.ns, fun i y v h1 h2 h3 => ?_⟩, fun y c h => ⟨_, x.cell y c h⟩, e0.hok.fresh (Nat.le_refl _), fun y c h => ?_, fun p hp => absurd (show p ∈ ([] : List (Addr × Obj)) from hp) (by simp), e0.hok.kept hk, ?_⟩
  · exact name_of_addr x.apart (PySem.mem_of_lookup h1) (PySem.mem_of_lookup h2)
  · have hy : scope.names.lookup y = some .cell ∨ scope.names.lookup y = some .free := hy
    rcases hy with hy | hy
    · exact cell_has hy
    · exact absurd rfl (S.nofree _ (PySem.mem_of_lookup hy))
  · exact Nat.le_of_lt (x.above y c (PySem.mem_of_lookup h))
  · have hi : i < vs.length := by
      unfold start at h2
      by_cases hi : i < vs.length
      · exact hi
      · rw [List.getElem?_append_right (by simpa using hi)] at h2
        rw [List.getElem?_replicate] at h2
        split at h2 <;> cases h2
    have ha : vs[i]? = some v := by
      unfold start at h2
      rw [List.getElem?_append_left (by simpa using hi), List.getElem?_map] at h2
      cases e : vs[i]? with
      | none => rw [e] at h2; cases h2
      | some a => rw [e] at h2; cases h2; rfl
    obtain ⟨u, hu, rv⟩ := r.get ha
    have hp : ps[i]? = some y := by
      rw [← S.pre, List.getElem?_take_of_lt (by omega)]; exact h1
    have ndP : ps.Nodup := by rw [← S.pre]; exact S.nd.sublist (List.take_sublist _ _)
    refine ⟨u, rv, ?_⟩
    rcases S.par y (List.mem_of_getElem? hp) with k | k
    · exact .inl ⟨k, bindL_get ndP hp hu k⟩
    · obtain ⟨c, e⟩ := cell_has (n := s.heap.objs.size + 1) k
      refine .inr ⟨.inl k, c, e, ?_⟩
      have q := x.cell y c e
      rw [bindC_get ndP hp hu (by show scope.names.lookup y ≠ _; rw [k]; decide)] at q
      exact q
  · exact e0.hok.fresh (Nat.le_of_lt (x.above y c (PySem.mem_of_lookup h)))
  · unfold start
    show _ = N.length
    rw [List.length_append, List.length_map, List.length_replicate]
    omega

/-- THE RULE: a def (or a method) of the text, by its body. The body's reading t is chosen for each entry; it is run at the parameters' values -/
theorem fn_of {CX : CXT} {P : Program} {w : World} {K : PySem.W.Frag} {mg : Str → Option Value} {base : Heap} {k : Nat} {f : Addr} {name qual : Str} {params : Arguments} {body : List Stmt} {scope : Scope} {dV kV doc pm cdv ct oc : Value} {an od : Option Addr}
    {osl : Array (Option Value)} {N ps : List Str} {sp : Sp} (lk : K.lookup f = some ⟨oc, od, .func (PySem.W.fnOf name qual params body scope dV kV doc pm an cdv ct), osl⟩) (hcd : PySem.W.codeIn K cdv qual = true) (S : FnScope N ps scope)
    (len : ∀ vs H Q E, sp vs H Q E → vs.length = ps.length)
    (hbody : ∀ (A : Around) (outer : List Env) (s : Shared) (H : Hp) (vs : List V) (Q : VK) (E : XK), Room k (A.deeper (envOfC qual scope s.heap.objs.size f cdv)) → sp vs H Q E →
      ∃ t, PSs (cxOf CX P w K mg base N qual scope f cdv A outer s H E) body t ∧ t { nx := fun _ H' => Q .non H', rt := Q } (start N vs) H) :
    FnOk P w K mg base CX (k + 1) f (PySem.W.fnOf name qual params body scope dV kV doc pm an cdv ct) ps sp := by
  refine ⟨len, fun A outer s H args us vs Q E hr e0 hb r hsp => ?_⟩
  have hl := len _ _ _ _ hsp
  have KX : K.In s.heap := e0.mod.kin.keeps fun b o e => (e0.bs b o e).1
  have lim : s.heap.NoLimit := e0.mod.nolimit.keeps fun b o e => (e0.bs b o e).1
  have hkind : ∀ y ∈ ps.zip us, scope.names.lookup y.1 = some .local ∨ (scope.names.lookup y.1 = some .cell ∧ ((cellsFrom (s.heap.objs.size + 1) scope.names []).lookup y.1).isSome = true) := fun ⟨n, v⟩ hy => by
    rcases S.par n (List.of_mem_zip hy).1 with q | q
    · exact .inl q
    · exact .inr ⟨q, PySem.W.cellsFrom_some _ _ _ (.inl q)⟩
  refine codeAny_call_function hr.depth (KX _ _ lk) rfl S.co S.gen rfl (PySem.W.codeRec_of KX hcd) (hb _ _ _ _ ?_)
  refine wpAny_newFunctionEnv_cells S.kind hkind fun env he s1 x => ?_
  subst he
  refine ⟨lim.keeps x.toInCall.keep, codeAny_func ?_⟩
  obtain ⟨t, ht, hq⟩ := hbody A outer s H vs Q E (hr.deeper _) hsp
  have I : Inv (cxOf CX P w K mg base N qual scope f cdv A outer s H E) [] (start N vs) H s1 := inv_start S hr.hd e0 hl r x
  refine wpAny_mono (ht [] s1 (start N vs) H _ I hq) (fun fl s' hs => ?_) fun e s' hs => hs
  have fin : ∀ {σ' : St} {H' : Hp} {v : V} {u : Value}, Inv (cxOf CX P w K mg base N qual scope f cdv A outer s H E) [] σ' H' s' → RelV v u → Q v H' → CE outer P w H s Q u s' :=
    fun {σ' H' v u} J rv q => ⟨v, H', J.os, J.bare, J.base, J.hok, rv, q⟩
  cases fl with
  | ret u =>
    obtain ⟨v, σ', H', J, rv, q⟩ := hs
    exact fin J rv q
  | next =>
    obtain ⟨σ', H', J, q⟩ := hs
    exact fin (v := V.non) (u := Value.none) J rfl q
  | brk =>
    obtain ⟨_, _, _, q⟩ := hs
    exact False.elim q
  | cont =>
    obtain ⟨_, _, _, q⟩ := hs
    exact False.elim q
end L2

namespace L2
open PySem PySem.Spec PyProof.Rows
section
variable {X : Cx} {x : Str} {p pos : Pos} {e : Expr} {es : List Expr} {t : TA} {id T : String} {r : List V → Hp → VK → Prop}

def tCB (r : List V → Hp → VK → Prop) (t : TA) : TE := fun σ H Q => t σ H fun vs H1 => r vs H1 Q
/-- f(e, ..), f a built-in function -/
theorem pe_callB (hc : CallR X (.builtin id) r) (hg : Gl X x) (hm : X.mg x = none) (hv : bootBuiltins x = some (.builtin id)) (ha : PA X (e :: es) t) (hn : x ≠ "__name__" := by decide) (hdb : (x == ("__debug__" : Str)) = false := by decide)
    (he : starEach (e :: es) X.env = (false, eval e X.env) :: starEach es X.env := by rfl) (hpl : (backTo pos (starEach es X.env)).any (·.1) = false := by rfl) : PE X (.Call (.Name x p) (e :: es) [] pos) (tCB r t) := by
  intro pins s σ H Q I h
  refine wpAny_Call_Name_kw (ld_blt I hg hm hv ?_ hn hdb)
  exact PyProof.Rows.callWith_builtin1 (thn (ha pos pins s σ H _ I h) fun us s1 ⟨vs, H1, I1, r1, q1⟩ => hc pins s1 σ H1 vs us Q I1 r1 q1) he hpl
/-- T(e, ..), T a built-in type -/
theorem pe_callTy (hc : CallR X (.type T) r) (hg : Gl X x) (hm : X.mg x = none) (hv : bootBuiltins x = some (.type T)) (ha : PA X (e :: es) t) (hn : x ≠ "__name__" := by decide) (hdb : (x == ("__debug__" : Str)) = false := by decide)
    (he : starEach (e :: es) X.env = (false, eval e X.env) :: starEach es X.env := by rfl) (hpl : (backTo pos (starEach es X.env)).any (·.1) = false := by rfl) : PE X (.Call (.Name x p) (e :: es) [] pos) (tCB r t) := by
  intro pins s σ H Q I h
  refine wpAny_Call_Name_kw (ld_blt I hg hm hv ?_ hn hdb)
  exact PyProof.Rows.callWith_type1 (thn (ha pos pins s σ H _ I h) fun us s1 ⟨vs, H1, I1, r1, q1⟩ => hc pins s1 σ H1 vs us Q I1 r1 q1) he hpl
end
end L2

namespace HT
open PySem PyProof.Rows

/-- t < u of tuples of ints -/
def lexLt : List Int → List Int → Bool
  | [], [] => false
  | [], _ :: _ => true
  | _ :: _, [] => false
  | x :: xs, y :: ys => if x = y then lexLt xs ys else decide (x < y)
section
open PySem.SeqAt
open PySem.AutoSeq1 (wpAny_loadPart')
open PySem.MeetsSeq PySem.MeetsSeq2 PySem.MeetsSeq3

end

section
variable {prog : Program} {w : World} {A : Around} {E : Value → Shared → Prop} {s : Shared}

/-- t + u, t not empty -/
theorem cat_tup {t b : Addr} {vs ws : List Value} {Q : Value → Shared → Prop} (ht : IsTup s.heap t vs.toArray) (hb : IsTup s.heap b ws.toArray) (hv : vs ≠ [])
    (h1 : ws = [] → Q (.ref t) s) (h2 : ws ≠ [] → Q (.ref s.heap.objs.size) { s with heap := s.heap.push { cls := .type "tuple", data := .seq (vs ++ ws).toArray } })
    (hsz : vs.length + ws.length ≤ sizeLine) : wpAny (model prog w) A (binaryOp .Add (.ref t) (.ref b)) Q E s := by
  obtain ⟨⟨cls, dd, data, sl⟩, ho, hc, n, hd⟩ := id ht
  obtain ⟨⟨cls2, dd2, data2, sl2⟩, ho2, hc2, n2, hd2⟩ := id hb
  simp only at hc hd hc2 hd2
  subst hc hd hc2 hd2
  have e : vs.toArray ++ ws.toArray = (vs ++ ws).toArray := by simp
  by_cases hw : ws = []
  · exact concat_meets ⟨_, ho, rfl⟩ ⟨_, ho2, rfl⟩ noFill_tuple_add seq_tuple_add PySem.F.slot_tuple_add PySem.F.entry_tuple_add (PySem.F.args_tuple_add_2 _ _)
      (tuple_addW1 t b vs.toArray ws.toArray n n2 dd dd2 sl sl2 (by simpa using hv) (by simp [hw])) ⟨ho, ho2, h1 hw⟩
  · refine concat_meets ⟨_, ho, rfl⟩ ⟨_, ho2, rfl⟩ noFill_tuple_add seq_tuple_add PySem.F.slot_tuple_add PySem.F.entry_tuple_add (PySem.F.args_tuple_add_2 _ _)
      (tuple_addW2 t b vs.toArray ws.toArray n n2 dd dd2 sl sl2 (by simpa using hv) (by simpa using hw) (by rw [List.size_toArray, List.size_toArray]; exact hsz)) ⟨ho, ho2, ?_⟩
    rw [e]
    exact h2 hw

/-! ### t[a:b], not the whole -/
/-- a slice's bound as a place among n (d where it is left out) -/
def sIx (n d : Nat) : Option Int → Nat
  | none => d
  | some v => if v < 0 then (v + (n : Int)).toNat else min v.toNat n
theorem sIx_none (n d : Nat) : sIx n d none = d := rfl
theorem sIx_nat (n d k : Nat) : sIx n d (some (k : Int)) = min k n := by
  show (if (k : Int) < 0 then ((k : Int) + (n : Int)).toNat else min (k : Int).toNat n) = min k n
  rw [if_neg (by omega), Int.toNat_natCast]
end
end HT

namespace L2
open PySem PySem.Spec PyProof.Rows

/-! ### the parts of a slice -/
abbrev TO := St → Hp → (Option Int → Hp → Prop) → Prop
/-- a slice's part (left out, or an int) -/
def PO (X : Cx) (e : Option Expr) (t : TO) : Prop :=
  ∀ (pins : List (Addr × Obj)) (s : Shared) (σ : St) (H : Hp) (Q : Option Int → Hp → Prop), Inv X pins σ H s → t σ H Q →
    wpAny (model X.prog X.w) X.A (evalPart e X.env) (fun u s' => ∃ o H', Inv X pins σ H' s' ∧ IsPart u o ∧ Q o H') X.xe s
def tNoPart : TO := fun _ H Q => Q none H
def tPart (t : TE) : TO := fun σ H Q => t σ H fun x H1 => ∃ i, x = .int i ∧ Q (some i) H1

section
variable {X : Cx} {e : Expr} {te : TE} {lo hi : Option Expr} {tl th : TO} {pos p2 : Pos}

theorem po_none : PO X none tNoPart := by
  intro pins s σ H Q I h
  rw [evalPart_none]
  exact wpAny_pure ⟨none, H, I, .none, h⟩
theorem po_some (h : PE X e te) : PO X (some e) (tPart te) := by
  intro pins s σ H Q I hw
  rw [evalPart_some]
  refine thn (h pins s σ H _ I hw) fun u s1 ⟨x, H1, I1, r1, q1⟩ => ?_
  obtain ⟨i, rfl, q⟩ := q1
  obtain ⟨t, rfl⟩ := r1
  exact ⟨some i, H1, I1, .int i t, q⟩

/-- what a slice of a value is, by values: the slice object stands at sl -/
def SlR (X : Cx) (r : V → Option Int → Option Int → Hp → VK → Prop) : Prop :=
  ∀ (pins : List (Addr × Obj)) (s : Shared) (σ : St) (H : Hp) (x : V) (v vl vu : Value) (lo hi : Option Int) (sl : Addr) (Q : VK), Inv X pins σ H s → RelV x v → s.heap.IsSliceOf sl vl vu .none → IsPart vl lo → IsPart vu hi → r x lo hi H Q →
    ∃ T id, typeLookup (.type T) "__getitem__" = pure (some (.builtin id)) ∧ s.TypeIs v T ∧ wpAny (model X.prog X.w) X.A (getItem v (.ref sl)) (EP X pins σ Q) X.xe s
def tSl (r : V → Option Int → Option Int → Hp → VK → Prop) (te : TE) (tl th : TO) : TE := fun σ H Q => te σ H fun x H1 => tl σ H1 fun l H2 => th σ H2 fun u H3 => r x l u H3 Q
/-- a[lo:hi], any a -/
theorem pe_slice {r : V → Option Int → Option Int → Hp → VK → Prop} (hr : SlR X r) (he : PE X e te) (hl : PO X lo tl) (hu : PO X hi th) : PE X (.Subscript e (.Slice lo hi none p2) pos) (tSl r te tl th) := by
  intro pins s σ H Q I h
  refine Subscript_ (thn (he pins s σ H _ I h) fun v s1 ⟨x, H1, I1, r1, q1⟩ => ?_)
  refine wpAny_Slice (thn (hl pins s1 σ H1 _ I1 q1) fun vl s2 ⟨l, H2, I2, pl, q2⟩ => thn (hu pins s2 σ H2 _ I2 q2) fun vu s3 ⟨u, H3, I3, pu, q3⟩ => ?_)
  rw [evalPart_none]
  refine wpAny_pure ?_
  have I4 : Inv X pins σ H3 { s3 with heap := s3.heap.push { cls := .type "slice", data := .fields #[vl, vu, .none] } } := I3.kept (t' := s3.toks) fun b ob q => Heap.get?_push_of_some _ q
  obtain ⟨T, id, hT, ht, hg⟩ := hr pins { s3 with heap := s3.heap.push { cls := .type "slice", data := .fields #[vl, vu, .none] } } σ H3 x v vl vu l u s3.heap.objs.size Q I4 r1 (Heap.IsSliceOf.new ..) pl pu q3
  show wpAny (model X.prog X.w) X.A (subscriptTail e (.Slice lo hi none p2) v (.ref s3.heap.objs.size)) (EP X pins σ Q) X.xe { s3 with heap := s3.heap.push { cls := .type "slice", data := .fields #[vl, vu, .none] } }
  exact tail_any (ops := [.ref s3.heap.objs.size, v]) ht hT hg (by with_unfolding_all rfl)

/-- the items of xs[lo:hi] -/
def cutV (xs : List V) (lo hi : Option Int) : List V := (xs.drop (HT.sIx xs.length 0 lo)).take (HT.sIx xs.length xs.length hi - HT.sIx xs.length 0 lo)
theorem cutV_length (xs : List V) (lo hi : Option Int) : (cutV xs lo hi).length ≤ xs.length := by
  unfold cutV
  rw [List.length_take, List.length_drop]
  omega
/-- t[lo:hi], not the whole of it (the whole would be t itself) -/
def rSlT (K : PySem.W.Frag) : V → Option Int → Option Int → Hp → VK → Prop := fun x lo hi H Q => ∃ a xs, x = .ref a ∧ SqT K H a xs ∧
  ¬ (HT.sIx xs.length 0 lo = 0 ∧ HT.sIx xs.length xs.length hi = xs.length) ∧ ∀ p, H p = none → Q (.ref p) (upd H p (.tup (cutV xs lo hi)))
/-! ### t < u, t + u -/
def rLtT (K : PySem.W.Frag) : R2 := fun x y H Q => ∃ a b ns ms, x = .ref a ∧ y = .ref b ∧ SqT K H a (ns.map V.int) ∧ SqT K H b (ms.map V.int) ∧ Q (.bl (HT.lexLt ns ms)) H
/-- t + u, t not empty: u empty gives t itself -/
def rCatT (K : PySem.W.Frag) : R2 := fun x y H Q => ∃ a b xs ys, x = .ref a ∧ y = .ref b ∧ SqT K H a xs ∧ SqT K H b ys ∧ xs ≠ [] ∧ xs.length + ys.length ≤ sizeLine ∧
  (ys = [] → Q (.ref a) H) ∧ (ys ≠ [] → ∀ p, H p = none → Q (.ref p) (upd H p (.tup (xs ++ ys))))
theorem Vals.nil_iff {xs : List V} {us : List Value} (r : Vals xs us) : us = [] ↔ xs = [] := by
  cases r with
  | nil => simp
  | cons _ _ => simp
theorem op_catT : OpR X (binaryOp .Add) (rCatT X.K) := by
  intro pins s σ H x y v u Q I rx ry h
  obtain ⟨a, b, xs, ys, rfl, rfl, ha, hb, hx, hz, q1, q2⟩ := h
  cases rx
  cases ry
  obtain ⟨its, r1, p1, _⟩ := I.tuple ha
  obtain ⟨its2, r2, p2, _⟩ := I.tuple hb
  refine HT.cat_tup p1 p2 (fun z => hx (r1.nil_iff.mp z)) (fun z => ⟨.ref a, H, I, rfl, q1 (r2.nil_iff.mp z)⟩) (fun z => ?_) (by rw [← r1.length, ← r2.length]; exact hz)
  refine ⟨.ref s.heap.objs.size, _, I.laid (t' := s.toks) (o := .tup (xs ++ ys)) (fun b ob q => Heap.get?_push_of_some _ q) (Nat.le_refl _) ?_, rfl, q2 (fun w => z (r2.nil_iff.mpr w)) _ (I.hok.fresh (Nat.le_refl _))⟩
  exact ⟨by rw [List.length_append]; exact hz, _, r1.append r2, IsTup.new _ _⟩
end
end L2

namespace L2
open PySem PySem.Spec PyProof.Rows

/-! ### places -/
/-- the place that an index of any sign means -/
def ixN (n : Nat) (i : Int) : Option Nat := if 0 ≤ i then (if i < n then some i.toNat else none) else if -(n : Int) ≤ i then some (i + n).toNat else none
def atI {α : Type} (xs : List α) (i : Int) : Option α := (ixN xs.length i).bind fun j => xs[j]?
theorem ixN_seq {n : Nat} {i : Int} {j : Nat} (h : ixN n i = some j) : seqIndex? i n = some j ∧ j < n ∧ -(n : Int) ≤ i ∧ i < n := by
  unfold ixN at h
  by_cases h0 : 0 ≤ i
  · rw [if_pos h0] at h
    by_cases h1 : i < n
    · rw [if_pos h1] at h
      have e : i.toNat = j := Option.some.inj h
      exact ⟨by rw [seqIndex_of h0 h1, e], by omega, by omega, h1⟩
    · rw [if_neg h1] at h; cases h
  · rw [if_neg h0] at h
    by_cases h1 : -(n : Int) ≤ i
    · rw [if_pos h1] at h
      have e : (i + n).toNat = j := Option.some.inj h
      exact ⟨by rw [seqIndex_neg (by omega) h1, e], by omega, h1, by omega⟩
    · rw [if_neg h1] at h; cases h
theorem atI_get {α : Type} {xs : List α} {i : Int} {v : α} (h : atI xs i = some v) : ∃ j, seqIndex? i xs.length = some j ∧ xs[j]? = some v ∧ j < xs.length ∧ -(xs.length : Int) ≤ i ∧ i < xs.length := by
  unfold atI at h
  cases e : ixN xs.length i with
  | none => rw [e] at h; cases h
  | some j =>
    rw [e] at h
    obtain ⟨h1, h2, h3, h4⟩ := ixN_seq e
    exact ⟨j, h1, h, h2, h3, h4⟩
theorem atI_nat {α : Type} {xs : List α} {j : Nat} {v : α} (h : xs[j]? = some v) : atI xs (j : Int) = some v := by
  have hj : j < xs.length := (List.getElem?_eq_some_iff.mp h).1
  have e : ixN xs.length (j : Int) = some j := by
    unfold ixN
    rw [if_pos (by omega), if_pos (by omega)]; simp
  unfold atI; rw [e]; exact h
/-! ### what may be subscripted -/
/-- what stands as an index of a plain subscript -/
def PlainIx (b : Expr) : Prop := ∀ o i, subscripted b false o i = operate [o, i] (getItem o i)
/-- a subscript by values -/
def IxR (X : Cx) (r : R2) : Prop :=
  ∀ (value slice : Expr) (pins : List (Addr × Obj)) (s : Shared) (σ : St) (H : Hp) (x y : V) (v u : Value) (Q : VK), Inv X pins σ H s → RelV x v → RelV y u → r x y H Q →
    subscripted slice false v u = operate [v, u] (getItem v u) → wpAny (model X.prog X.w) X.A (subscriptTail value slice v u) (EP X pins σ Q) X.xe s
/-- a call of a builtin's method by values: the receiver, the arguments -/
def MtR (X : Cx) (id : String) (r : V → List V → Hp → VK → Prop) : Prop :=
  ∀ (pins : List (Addr × Obj)) (s : Shared) (σ : St) (H : Hp) (x : V) (xs : List V) (v : Value) (us : List Value) (Q : VK), Inv X pins σ H s → RelV x v → Vals xs us → r x xs H Q →
    wpAny (model X.prog X.w) X.A (call (.builtin id) (v :: us)) (EP X pins σ Q) X.xe s
section
variable {X : Cx} {a b : Expr} {ta tb : TE} {pos : Pos}
theorem IxR.or {r r' : R2} (h : IxR X r) (h' : IxR X r') : IxR X (fun x y H Q => r x y H Q ∨ r' x y H Q) := by
  intro value slice pins s σ H x y v u Q I rx ry q hs
  rcases q with q | q
  · exact h value slice pins s σ H x y v u Q I rx ry q hs
  · exact h' value slice pins s σ H x y v u Q I rx ry q hs
/-- a[b] -/
theorem pe_ix {r : R2} (hr : IxR X r) (ha : PE X a ta) (hb : PE X b tb) (hs : PlainIx b) : PE X (.Subscript a b pos) (tOp r ta tb) := by
  intro pins s σ H Q I h
  exact Subscript_ (binT ha hb I h fun v u s2 x y H2 I2 rx ry q => hr a b pins s2 σ H2 x y v u Q I2 rx ry q (hs _ _))

def rIxL (K : PySem.W.Frag) : R2 := fun x y H Q => ∃ p xs i v, x = .ref p ∧ y = .int i ∧ SqL K H p xs ∧ atI xs i = some v ∧ Q v H
def rIxT (K : PySem.W.Frag) : R2 := fun x y H Q => ∃ p xs i v, x = .ref p ∧ y = .int i ∧ SqT K H p xs ∧ atI xs i = some v ∧ Q v H
def rIxS : R2 := fun x y H Q => ∃ z i c, x = .str z ∧ y = .int i ∧ z.length ≤ sizeLine ∧ atI z.cps.toList i = some c ∧ Q (.str ⟨#[c]⟩) H
theorem ix_list : IxR X (rIxL X.K) := by
  intro value slice pins s σ H x y v u Q I rx ry h hs
  obtain ⟨p, xs, i, z, rfl, rfl, hq, he, q⟩ := h
  cases rx
  obtain ⟨t, rfl⟩ := ry
  obtain ⟨its, r, pl, hz⟩ := I.list hq
  obtain ⟨j, h1, h2, h3, h4, h5⟩ := atI_get he
  obtain ⟨w, ew, rw'⟩ := r.get h2
  have hl := r.length
  have hn := line63
  have fin : EP X pins σ Q w s := ⟨z, H, I, rw', q⟩
  by_cases h0 : 0 ≤ i
  · have hj : i.toNat = j := by
      rw [seqIndex_of h0 h5] at h1
      exact Option.some.inj h1
    exact item_listR pl.isList h0 (by omega) (by rw [hj]; simpa using ew) fin hs
  · have hj : (i + (its.toArray.size : Int)).toNat = j := by
      rw [seqIndex_neg (by omega) h4] at h1
      rw [List.size_toArray, ← hl]
      exact Option.some.inj h1
    exact subscriptTail_builtinR (x := w) pl.isList.typeIs slot_list_getitem.lookup
      (wpAny_getItem_list_neg (Q := fun r s' => r = w ∧ EP X pins σ Q r s') pl.isList (by omega) (by rw [List.size_toArray] <;> omega) (by omega) (by rw [hj]; simpa using ew) ⟨rfl, fin⟩) hs
theorem ix_tup : IxR X (rIxT X.K) := by
  intro value slice pins s σ H x y v u Q I rx ry h hs
  obtain ⟨p, xs, i, z, rfl, rfl, hq, he, q⟩ := h
  cases rx
  obtain ⟨t, rfl⟩ := ry
  obtain ⟨its, r, pl, hz⟩ := I.tuple hq
  obtain ⟨j, h1, h2, h3, h4, h5⟩ := atI_get he
  obtain ⟨w, ew, rw'⟩ := r.get h2
  have hl := r.length
  have hn := line63
  have fin : EP X pins σ Q w s := ⟨z, H, I, rw', q⟩
  exact subscriptTail_builtinR (x := w) pl.typeIs slot_tuple_getitem.lookup
    (getItem_tuple (j := j) (Q := fun r s' => r = w ∧ EP X pins σ Q r s') pl (by omega) (by omega) (by rw [List.size_toArray, ← hl]; exact h1) (by simpa using ew) ⟨rfl, fin⟩) hs
theorem ix_str : IxR X rIxS := by
  intro value slice pins s σ H x y v u Q I rx ry h hs
  obtain ⟨z, i, c, rfl, rfl, hz, he, q⟩ := h
  obtain ⟨t, rfl⟩ := rx
  obtain ⟨t', rfl⟩ := ry
  obtain ⟨j, h1, h2, h3, h4, h5⟩ := atI_get he
  have hl : z.cps.toList.length = z.length := by simp [Str.length]
  rw [hl] at h1 h4 h5
  have hn := line63
  exact tail_any (typeIs_str s z t) slot_str_getitem.lookup (getItem_str (c := c) (by
    have e1 : decide (i < -(2 ^ 63 : Int)) = false := decide_eq_false (by omega)
    have e2 : decide (i ≥ 2 ^ 63) = false := decide_eq_false (by omega)
    rw [e1, e2, Bool.or_false]) (by rw [h1]; simpa using h2) ⟨.str ⟨#[c]⟩, H, I.tok _, ⟨_, rfl⟩, q⟩) hs
/-- list, tuple or str -/
def rIx (K : PySem.W.Frag) : R2 := fun x y H Q => rIxL K x y H Q ∨ rIxT K x y H Q ∨ rIxS x y H Q
theorem ix_seq : IxR X (rIx X.K) := ix_list.or (ix_tup.or ix_str)

/-! ### xs[i] = v, any sign -/
/-- the list's object behind a store -/
theorem mapSeq_set (its : List Value) (n j : Nat) (u : Value) : Obj.mapSeq (·.setIfInBounds j u) { cls := .type "list", data := .seq its.toArray n } = { cls := .type "list", data := .seq (its.set j u).toArray n } := by
  simp [Obj.mapSeq]
theorem Inv.lst {pins : List (Addr × Obj)} {σ : St} {H : Hp} {s : Shared} {p : Addr} {xs : List V} (I : Inv X pins σ H s) (h : H p = some (.lst xs)) :
    ∃ (its : List Value) (n : Nat), Vals xs its ∧ s.heap.get? p = some { cls := .type "list", data := .seq its.toArray n } ∧ xs.length ≤ sizeLine := by
  obtain ⟨z, its, n, r, e⟩ := I.hok p _ h
  exact ⟨its, n, r, e, z⟩
/-- the list at p is written by an update of its object -/
theorem Inv.lstUpd {pins : List (Addr × Obj)} {σ : St} {H : Hp} {s : Shared} {p : Addr} {xs ys : List V} {its its' : List Value} {n n' : Nat} {f : Obj → Obj} (I : Inv X pins σ H s) (h : H p = some (.lst xs))
    (ho : s.heap.get? p = some { cls := .type "list", data := .seq its.toArray n }) (hf : f { cls := .type "list", data := .seq its.toArray n } = { cls := .type "list", data := .seq its'.toArray n' }) (r : Vals ys its') (hz : ys.length ≤ sizeLine) (t : Nat) :
    Inv X pins σ (upd H p (.lst ys)) { s with heap := s.heap.update p f, toks := t } := by
  have e : (s.heap.update p f).get? p = some { cls := .type "list", data := .seq its'.toArray n' } := by
    rw [Heap.get?_update_self f ho (by rw [hf] <;> rfl), hf]
  refine I.write (x := p) (e := p) (by rw [h]; trivial) (.inl rfl) (fun b u hb q => (Heap.get?_update_other _ _ (Ne.symm hb)).trans q) ⟨_, e⟩ ?_
  exact ⟨hz, its', n', r, e⟩
def rSetL : V → V → V → Hp → (Hp → Prop) → Prop := fun o i v H Q => ∃ p xs k j, o = .ref p ∧ i = .int k ∧ H p = some (.lst xs) ∧ ixN xs.length k = some j ∧ Q (upd H p (.lst (xs.set j v)))
theorem set_list : PSet X rSetL := by
  intro pins s σ H o i v ov iv u Q I ro ri rv h
  obtain ⟨p, xs, k, j, rfl, rfl, hp, hj, q⟩ := h
  cases ro
  obtain ⟨t, rfl⟩ := ri
  obtain ⟨its, n, r, ho, hz⟩ := I.lst hp
  obtain ⟨h1, h2, h3, h4⟩ := ixN_seq hj
  have hl := r.length
  have hn := line63
  have I' : Inv X pins σ (upd H p (.lst (xs.set j v))) { s with heap := s.heap.update p (Obj.mapSeq (·.setIfInBounds j u)) } :=
    I.lstUpd hp ho (mapSeq_set its n j u) (r.set rv j) (by rw [List.length_set]; exact hz) s.toks
  by_cases h0 : 0 ≤ k
  · have hk : k.toNat = j := by
      rw [seqIndex_of h0 h4] at h1
      exact Option.some.inj h1
    exact PySem.W.ki_setAt ho h0 (by omega) (by rw [List.size_toArray, ← hl]; exact h4) (by rw [hk]; exact ⟨_, I', q⟩)
  · have hk : (k + (its.toArray.size : Int)).toNat = j := by
      rw [seqIndex_neg (by omega) h3] at h1
      rw [List.size_toArray, ← hl]
      exact Option.some.inj h1
    exact PySem.W.ki_setBack ho (by omega) (by rw [List.size_toArray, ← hl]; exact h3) (by omega) (by rw [hk]; exact ⟨_, I', q⟩)

/-! ### slices -/
theorem slice_bounds (lo hi : Option Int) (n : Nat) : (sliceBounds lo hi none n).1 = ((HT.sIx n 0 lo : Nat) : Int) ∧ (sliceBounds lo hi none n).2.1 = ((HT.sIx n n hi : Nat) : Int) ∧ (sliceBounds lo hi none n).2.2 = 1 := by
  refine ⟨?_, ?_, rfl⟩
  · cases lo with
    | none => simp [sliceBounds, HT.sIx]
    | some i =>
      simp only [sliceBounds, HT.sIx, Option.getD_none, show (1 : Int) > 0 by decide, if_true]
      by_cases h : i < 0
      · simp only [h, if_true] <;> omega
      · simp only [h, if_false] <;> omega
  · cases hi with
    | none => simp [sliceBounds, HT.sIx]
    | some i =>
      simp only [sliceBounds, HT.sIx, Option.getD_none, show (1 : Int) > 0 by decide, if_true]
      by_cases h : i < 0
      · simp only [h, if_true] <;> omega
      · simp only [h, if_false] <;> omega
theorem slicePick_cut (its : List Value) (lo hi : Option Int) : slicePick its.toArray lo hi none = ((its.drop (HT.sIx its.length 0 lo)).take (HT.sIx its.length its.length hi - HT.sIx its.length 0 lo)).toArray := by
  obtain ⟨h1, h2, h3⟩ := slice_bounds lo hi its.toArray.size
  unfold slicePick
  rw [h1, h2, h3]
  simp only [sliceRange_one, pick_run, List.size_toArray] <;> rfl
/-- xs[lo:hi] of a list: a new list -/
def rSlL (K : PySem.W.Frag) : V → Option Int → Option Int → Hp → VK → Prop := fun x lo hi H Q => ∃ a xs, x = .ref a ∧ SqL K H a xs ∧ ∀ p, H p = none → Q (.ref p) (upd H p (.lst (cutV xs lo hi)))
theorem sl_list : SlR X (rSlL X.K) := by
  intro pins s σ H x v vl vu lo hi sl Q I rx hs pl pu h
  obtain ⟨a, xs, rfl, hx, q⟩ := h
  cases rx
  obtain ⟨its, r, ht, hz⟩ := I.list hx
  have hlen := r.length
  refine ⟨"list", _, slot_list_getitem.lookup, ht.isList.typeIs, ?_⟩
  refine wpAny_getItem_list_slice ht.isList hs pl pu .none (by simp) ?_ (by rw [List.size_toArray] <;> omega)
  rw [slicePick_cut, ← hlen]
  refine ⟨.ref s.heap.objs.size, _, I.laid (t' := s.toks) (o := .lst (cutV xs lo hi)) (fun b ob q => Heap.get?_push_of_some _ q) (Nat.le_refl _) ?_, rfl, q _ (I.hok.fresh (Nat.le_refl _))⟩
  exact ⟨Nat.le_trans (cutV_length xs lo hi) hz, _, 0, (r.drop (HT.sIx xs.length 0 lo)).take (HT.sIx xs.length xs.length hi - HT.sIx xs.length 0 lo), Heap.get?_push_size _ rfl⟩

/-! ### in, not in: flat items -/
def flatV : V → Bool
  | .non => true
  | .bl _ => true
  | .int _ => true
  | .str _ => true
  | _ => false
/-- == of flat values -/
def eqV : V → V → Bool
  | .non, .non => true
  | .bl a, .bl b => a == b
  | .bl a, .int b => (if a then 1 else 0) == b
  | .int a, .bl b => a == (if b then 1 else 0)
  | .int a, .int b => a == b
  | .str a, .str b => a == b
  | _, _ => false
theorem eqAt_V {A : Around} {s : Shared} {y x : V} {u v : Value} (ry : RelV y u) (rx : RelV x v) (fy : flatV y = true) (fx : flatV x = true) : SeqAt.EqAt A s u v (eqV y x) := by
  cases y with
  | non =>
    cases ry
    cases x with
    | non => cases rx; exact SeqAt.EqAt.same _
    | bl b => cases rx; exact SeqAt.EqAt.none_bool b
    | int b => obtain ⟨t, rfl⟩ := rx; exact SeqAt.EqAt.none_int b t
    | str b => obtain ⟨t, rfl⟩ := rx; exact SeqAt.EqAt.none_str b t
    | _ => exact absurd (show false = true from fx) Bool.false_ne_true
  | bl a =>
    cases ry
    cases x with
    | non => cases rx; exact SeqAt.EqAt.bool_none a
    | bl b => cases rx; exact SeqAt.EqAt.bool_bool a b
    | int b => obtain ⟨t, rfl⟩ := rx; exact SeqAt.EqAt.bool_int a b t
    | str b => obtain ⟨t, rfl⟩ := rx; exact SeqAt.EqAt.bool_str a b t
    | _ => exact absurd (show false = true from fx) Bool.false_ne_true
  | int a =>
    obtain ⟨t', rfl⟩ := ry
    cases x with
    | non => cases rx; exact SeqAt.EqAt.int_none a t'
    | bl b => cases rx; exact SeqAt.EqAt.int_bool a t' b
    | int b => obtain ⟨t, rfl⟩ := rx; exact SeqAt.EqAt.int_int a t' b t
    | str b => obtain ⟨t, rfl⟩ := rx; exact SeqAt.EqAt.int_str a t' b t
    | _ => exact absurd (show false = true from fx) Bool.false_ne_true
  | str a =>
    obtain ⟨t', rfl⟩ := ry
    cases x with
    | non => cases rx; exact SeqAt.EqAt.str_none a t'
    | bl b => cases rx; exact SeqAt.EqAt.str_bool a t' b
    | int b => obtain ⟨t, rfl⟩ := rx; exact SeqAt.EqAt.str_int a t' b t
    | str b => obtain ⟨t, rfl⟩ := rx; exact SeqAt.EqAt.str_str a t' b t
    | _ => exact absurd (show false = true from fx) Bool.false_ne_true
  | _ => exact absurd (show false = true from fy) Bool.false_ne_true
/-- the items' answers, read off the values (a value's own answer does not lean on its token) -/
def eqU (x : V) (u : Value) : Bool := match u with
  | .none => eqV .non x
  | .bool b => eqV (.bl b) x
  | .int i _ => eqV (.int i) x
  | .str z _ => eqV (.str z) x
  | _ => false
def inV (x : V) (xs : List V) : Bool := xs.any fun y => eqV y x
/-- x in a list or tuple of flat items -/
def rIn (K : PySem.W.Frag) (neg : Bool) : R2 := fun x y H Q => ∃ p xs, y = .ref p ∧ (SqL K H p xs ∨ SqT K H p xs) ∧ flatV x = true ∧ xs.all flatV = true ∧ Q (.bl (if neg then !inV x xs else inV x xs)) H
/-! ### len, list(x), tuple(x) of any list or tuple that is read -/
theorem call_len_seq : CallR X (.builtin "len") (fun xs H Q => ∃ p ys, xs = [.ref p] ∧ (SqL X.K H p ys ∨ SqT X.K H p ys) ∧ Q (.int ys.length) H) := by
  intro pins s σ H xs us Q I r h
  obtain ⟨p, ys, rfl, hq, q⟩ := h
  obtain ⟨u, rfl, rx⟩ := vals1 r
  cases rx
  have hn := line63
  rcases hq with hq | hq
  · obtain ⟨its, r', pl, hz⟩ := I.list hq
    have hlen := r'.length
    exact Calls.call_len_list pl.isList (by simp only [List.size_toArray] <;> omega) ⟨.int ys.length, H, I.tok _, ⟨s.toks + 1, by rw [List.size_toArray, hlen]⟩, q⟩
  · obtain ⟨its, r', pl, hz⟩ := I.tuple hq
    have hlen := r'.length
    exact len_tuple pl (by simp only [List.size_toArray] <;> omega) ⟨.int ys.length, H, I.tok _, ⟨s.toks + 1, by rw [List.size_toArray, hlen]⟩, q⟩
theorem call_len_str : CallR X (.builtin "len") (fun xs H Q => ∃ z, xs = [.str z] ∧ z.length ≤ sizeLine ∧ Q (.int z.length) H) := by
  intro pins s σ H xs us Q I r h
  obtain ⟨z, rfl, hz, q⟩ := h
  obtain ⟨u, rfl, t, rfl⟩ := vals1 r
  have hn := line63
  exact len_str (by omega) ⟨.int z.length, H, I.tok _, ⟨_, rfl⟩, q⟩
theorem CallR.or {f : Value} {r r' : List V → Hp → VK → Prop} (h : CallR X f r) (h' : CallR X f r') : CallR X f (fun xs H Q => r xs H Q ∨ r' xs H Q) := by
  intro pins s σ H xs us Q I rs q
  rcases q with q | q
  · exact h pins s σ H xs us Q I rs q
  · exact h' pins s σ H xs us Q I rs q
theorem call_list_of : CallR X (.type "list") (fun xs H Q => ∃ p ys, xs = [.ref p] ∧ (SqL X.K H p ys ∨ SqT X.K H p ys) ∧ ∀ l, H l = none → Q (.ref l) (upd H l (.lst ys))) := by
  intro pins s σ H xs us Q I r h
  obtain ⟨p, ys, rfl, hq, q⟩ := h
  obtain ⟨u, rfl, rx⟩ := vals1 r
  cases rx
  have fin : ∀ (its : List Value), Vals ys its → ys.length ≤ sizeLine → ∀ (h' : Heap) (c' : Nat), (∀ b o', s.heap.get? b = some o' → h'.get? b = some o') →
      h'.get? s.heap.objs.size = some { cls := .type "list", dict := none, data := .seq its.toArray c', slots := #[] } → EP X pins σ Q (.ref s.heap.objs.size) { s with heap := h' } := fun its r' hz h' c' kp e =>
    ⟨.ref s.heap.objs.size, _, I.laid (t' := s.toks) kp (Nat.le_refl _) (show ObjOk X.prog X.w _ h' _ (.lst ys) from ⟨hz, its, c', r', e⟩), rfl, q _ (I.hok.fresh (Nat.le_refl _))⟩
  rcases hq with hq | hq
  · obtain ⟨its, r', pl, hz⟩ := I.list hq
    have hlen := r'.length
    obtain ⟨o, ho, hc, n, hd⟩ := pl.isList
    exact call_list_seq p (.inl rfl) ho hc hd (fun h' c' kp e => fin its r' hz h' c' kp e) (by simp only [List.size_toArray] <;> omega)
  · obtain ⟨its, r', pl, hz⟩ := I.tuple hq
    have hlen := r'.length
    obtain ⟨o, ho, hc, n, hd⟩ := pl
    exact call_list_seq p (.inr rfl) ho hc hd (fun h' c' kp e => fin its r' hz h' c' kp e) (by simp only [List.size_toArray] <;> omega)
/-! ### the call of a builtin's method: o.m(..) -/
/-- the value is of that builtin type -/
def tyV (K : PySem.W.Frag) (T : String) (x : V) (H : Hp) : Prop := match x with
  | .str _ => T = "str"
  | .int _ => T = "int"
  | .ref p => (T = "list" ∧ ∃ xs, SqL K H p xs) ∨ (T = "tuple" ∧ ∃ o, K.lookup p = some o ∧ o.cls = .type "tuple" ∧ o.dict = none) ∨
      (T = "dict" ∧ ((∃ kvs, H p = some (.dK kvs)) ∨ ∃ kvs, H p = some (.dT kvs))) ∨ (T = "set" ∧ ∃ S n, H p = some (.set S n))
  | _ => False
theorem tyV_is {pins : List (Addr × Obj)} {σ : St} {H : Hp} {s : Shared} {T : String} {x : V} {v : Value} (I : Inv X pins σ H s) (r : RelV x v) (ty : tyV X.K T x H) :
    s.TypeIs v T ∧ ∀ a, v = .ref a → ∃ ob, s.heap.get? a = some ob ∧ ob.dict = none := by
  cases x with
  | str z =>
    obtain ⟨t, rfl⟩ := r
    cases (show T = "str" from ty)
    exact ⟨typeIs_str s z t, fun _ e => nomatch e⟩
  | int i =>
    obtain ⟨t, rfl⟩ := r
    cases (show T = "int" from ty)
    exact ⟨typeIs_int s i t, fun _ e => nomatch e⟩
  | ref p =>
    cases r
    rcases ty with ⟨rfl, xs, hq⟩ | ⟨rfl, o, hk, hc, hd⟩ | ⟨rfl, hk⟩ | ⟨rfl, S, n, hk⟩
    · obtain ⟨its, _, pl, _⟩ := I.list hq
      refine ⟨pl.isList.typeIs, fun a e => ?_⟩
      cases e
      obtain ⟨o, n, e, c, hd, _⟩ := pl
      exact ⟨o, e, hd⟩
    · refine ⟨⟨o, I.kIn p o hk, hc⟩, fun a e => ?_⟩
      cases e
      exact ⟨o, I.kIn _ o hk, hd⟩
    · have z : ∃ o, s.heap.get? p = some o ∧ o.ExactDict := by
        rcases hk with ⟨kvs, hk⟩ | ⟨kvs, hk⟩
        · obtain ⟨_, _, _, _, o, _, _, e, ex, _⟩ := I.hok p _ hk
          exact ⟨o, e, ex⟩
        · obtain ⟨_, _, _, _, o, _, _, e, ex, _⟩ := I.hok p _ hk
          exact ⟨o, e, ex⟩
      obtain ⟨o, e, ex⟩ := z
      refine ⟨⟨o, e, ex.1⟩, fun a e2 => ?_⟩
      cases e2
      exact ⟨o, e, ex.2.1⟩
    · obtain ⟨o, _, _, _, e, ex, _⟩ := I.hok p _ hk
      refine ⟨⟨o, e, ex.1⟩, fun a e2 => ?_⟩
      cases e2
      exact ⟨o, e, ex.2.1⟩
  | _ => exact False.elim ty
def tBM0 (K : PySem.W.Frag) (T : String) (r : V → List V → Hp → VK → Prop) (to : TE) : TE := fun σ H Q => to σ H fun x H1 => tyV K T x H1 ∧ r x [] H1 Q
def tBM (K : PySem.W.Frag) (T : String) (r : V → List V → Hp → VK → Prop) (to : TE) (t : TA) : TE := fun σ H Q => to σ H fun x H1 => tyV K T x H1 ∧ t σ H1 fun xs H2 => r x xs H2 Q
variable {o e : Expr} {es : List Expr} {to : TE} {t : TA} {name : Str} {apos cpos : Pos} {T id : String} {r : V → List V → Hp → VK → Prop}
theorem pe_bm (pa : PlainAttrs T) (slot : Slot T name id) (hty : typeOf (.builtin id) = pure (.type "method_descriptor")) (hm : MtR X id r) (ho : PE X o to) (ha : PA X (e :: es) t)
    (hbase : attributeBase o name X.env (eval o X.env) = eval o X.env := by rfl)
    (hfew : ((backTo cpos (starEach (e :: es) X.env)).all (fun x => !x.1) && (backToKw cpos (keywordEach [] X.env)).all (fun x => x.1.isSome)
      && decide ((e :: es).length + ([] : List Keyword).length + (if ([] : List Keyword).isEmpty then 0 else 1) < 30)) = true := by rfl)
    (hline : (apos.endLine == cpos.line) = true := by rfl) (hs : starEach (e :: es) X.env = (false, eval e X.env) :: starEach es X.env := by rfl) (hplain : (backTo cpos (starEach es X.env)).any (·.1) = false := by rfl) :
    PE X (.Call (.Attribute o name apos) (e :: es) [] cpos) (tBM X.K T r to t) := by
  intro pins s σ H Q I h
  refine wpAny_Call_method_late hbase hfew hline rfl (thn (ho pins s σ H _ I h) fun v s1 ⟨x, H1, I1, r1, ty, q1⟩ => ?_)
  obtain ⟨h1, h2⟩ := tyV_is I1 r1 ty
  refine ⟨T, id, pa, slot, hty, h1, h2, ?_⟩
  have hA := ha cpos pins s1 σ H1 _ I1 q1
  rw [hs] at hA ⊢
  refine Calls.callWith_builtin (by show (false || (backTo cpos (starEach es X.env)).any (·.1)) = false; rw [hplain] <;> rfl) (Calls.evalArgs_plain ?_)
  exact thn hA fun us s2 ⟨vs, H2, I2, r2, q2⟩ => hm pins s2 σ H2 x vs v us Q I2 r1 r2 q2
/- xs.append(e), list.index on a module's tuple .. are MtR facts of 06m -/
end
end L2

namespace L2
open PySem PySem.Spec PyProof.Rows

def MtM (X : Cx) (id : String) (r : V → List V → Hp → VK → Prop) : Prop :=
  ∀ (pins : List (Addr × Obj)) (s : Shared) (σ : St) (H : Hp) (x : V) (xs : List V) (v : Value) (us : List Value) (Q : VK), Inv X pins σ H s → RelV x v → Vals xs us → r x xs H Q →
    wpAny (model X.prog X.w) X.A (call (.builtin id) (v :: us)) (EP X pins σ Q) X.xe s

/-! ### lists of values -/
theorem Vals.one : ∀ {x : V} {us : List Value}, Vals [x] us → ∃ u, us = [u] ∧ RelV x u
  | _, _, .cons r .nil => ⟨_, rfl, r⟩
theorem Vals.two : ∀ {x y : V} {us : List Value}, Vals [x, y] us → ∃ u v, us = [u, v] ∧ RelV x u ∧ RelV y v
  | _, _, _, .cons r (.cons q .nil) => ⟨_, _, rfl, r, q⟩
theorem Vals.rep {xs : List V} {us : List Value} (h : Vals xs us) : ∀ k : Nat, Vals (List.replicate k xs).flatten (List.replicate k us).flatten
  | 0 => .nil
  | k + 1 => by
    rw [List.replicate_succ, List.replicate_succ, List.flatten_cons, List.flatten_cons]
    exact Vals.append h (Vals.rep h k)
theorem foldl_rep (its : List Value) : ∀ (k : Nat) (acc : List Value),
    List.foldl (fun x1 x2 => x1 ++ x2) acc.toArray (List.replicate k its.toArray) = (acc ++ (List.replicate k its).flatten).toArray
  | 0, acc => by simp
  | k + 1, acc => by
    have e : acc.toArray ++ its.toArray = (acc ++ its).toArray := by simp
    have e2 : (acc ++ its) ++ (List.replicate k its).flatten = acc ++ (List.replicate (k + 1) its).flatten := by
      rw [List.replicate_succ, List.flatten_cons, List.append_assoc]
    rw [← e2, ← foldl_rep its k (acc ++ its), ← e, List.replicate_succ, List.foldl_cons]

section
variable {X : Cx} {pins : List (Addr × Obj)} {σ : St} {H : Hp} {s : Shared} {l b : Addr} {xs ys zs : List V}

/-! ### the two steps: a tracked list is rewritten, a new list is laid -/
theorem Inv.lset {its its' : List Value} {n : Nat} {f : Array Value → Array Value} {t' : Nat} (I : Inv X pins σ H s) (hH : H l = some (.lst xs))
    (e : s.heap.get? l = some { cls := .type "list", data := .seq its.toArray n }) (hf : f its.toArray = its'.toArray) (hv : Vals ys its') (hz : ys.length ≤ sizeLine) :
    Inv X pins σ (upd H l (.lst ys)) { s with heap := s.heap.update l (Obj.mapSeq f), toks := t' } := by
  have q := PySem.IsL.update e f
  rw [hf] at q
  refine I.write (x := l) (e := l) (by rw [hH]; exact trivial) (.inl rfl) (fun b' u hb hu => (Heap.get?_update_other s.heap (Obj.mapSeq f) (Ne.symm hb)).trans hu) ⟨_, q⟩ ?_
  exact ⟨hz, its', _, hv, q⟩
theorem Inv.lnew {its : List Value} {t' : Nat} (I : Inv X pins σ H s) (hv : Vals ys its) (hz : ys.length ≤ sizeLine) :
    Inv X pins σ (upd H s.heap.objs.size (.lst ys)) { s with heap := s.heap.push { cls := .type "list", data := .seq its.toArray }, toks := t' } :=
  I.laid (fun _ _ q => Heap.get?_push_of_some _ q) (Nat.le_refl _) ⟨hz, its, 0, hv, Heap.get?_push_size _ rfl⟩
theorem Inv.fresh (I : Inv X pins σ H s) : H s.heap.objs.size = none := I.hok.fresh (Nat.le_refl _)
theorem Inv.lstM (I : Inv X pins σ H s) (hH : H l = some (.lst xs)) : xs.length ≤ sizeLine ∧ ∃ (its : List Value) (n : Nat), Vals xs its ∧ xs.length = its.length ∧ s.heap.get? l = some { cls := .type "list", data := .seq its.toArray n } := by
  obtain ⟨z, its, n, r, e⟩ := I.hok l _ hH
  exact ⟨z, its, n, r, r.length, e⟩

theorem notLongL {n : Nat} (h : n ≤ sizeLine) : Builtin.List.listTooLong n = false := by
  unfold Builtin.List.listTooLong
  exact decide_eq_false (by omega)
end

section
variable {X : Cx}

/-! ### methods -/
def rAppend : V → List V → Hp → VK → Prop := fun x vs H Q => ∃ l xs y, x = .ref l ∧ vs = [y] ∧ H l = some (.lst xs) ∧ xs.length < sizeLine ∧ Q .non (upd H l (.lst (xs ++ [y])))
theorem mt_append : MtM X "list.append" rAppend := by
  intro pins s σ H x vs v us Q I rx rv h
  obtain ⟨l, xs, y, rfl, rfl, hH, hz, q⟩ := h
  cases rx
  obtain ⟨u, rfl, ru⟩ := rv.one
  obtain ⟨z, its, n, r, hl, e⟩ := I.lstM hH
  refine call_meets F.slot_list_append ⟨_, e, rfl⟩ F.entry_list_append (F.args_list_append_2 _ _) (PySem.list_append l its.toArray n u (by rw [List.size_toArray]; omega)) ⟨e, ?_⟩
  refine ⟨.non, _, I.lset (its' := its ++ [u]) hH e (by simp) (r.append (.cons ru .nil)) ?_, rfl, q⟩
  rw [List.length_append, List.length_singleton]
  omega

def rExtend : V → List V → Hp → VK → Prop := fun x vs H Q => ∃ l b xs zs, x = .ref l ∧ vs = [.ref b] ∧ H l = some (.lst xs) ∧ H b = some (.lst zs) ∧ xs.length + zs.length ≤ sizeLine ∧ Q .non (upd H l (.lst (xs ++ zs)))
def rPop : V → List V → Hp → VK → Prop := fun x vs H Q => ∃ l xs y, x = .ref l ∧ vs = [] ∧ H l = some (.lst xs) ∧ xs[xs.length - 1]? = some y ∧ Q y (upd H l (.lst xs.dropLast))
def rPopAt : V → List V → Hp → VK → Prop := fun x vs H Q => ∃ l xs i k y, x = .ref l ∧ vs = [.int i] ∧ H l = some (.lst xs) ∧ -(2 ^ 63) ≤ i ∧ i < 2 ^ 63 ∧ seqIndex? i xs.length = some k ∧ xs[k]? = some y ∧ Q y (upd H l (.lst (xs.eraseIdx k)))
def rReverse : V → List V → Hp → VK → Prop := fun x vs H Q => ∃ l xs, x = .ref l ∧ vs = [] ∧ H l = some (.lst xs) ∧ Q .non (upd H l (.lst xs.reverse))
def rClear : V → List V → Hp → VK → Prop := fun x vs H Q => ∃ l xs, x = .ref l ∧ vs = [] ∧ H l = some (.lst xs) ∧ Q .non (upd H l (.lst []))
/-! ### list + list, list += list, list * int -/
def rCat : R2 := fun x y H Q => ∃ l b xs zs, x = .ref l ∧ y = .ref b ∧ H l = some (.lst xs) ∧ H b = some (.lst zs) ∧ xs.length + zs.length ≤ sizeLine ∧ ∀ p, H p = none → Q (.ref p) (upd H p (.lst (xs ++ zs)))
theorem op_cat : OpR X (binaryOp .Add) rCat := by
  intro pins s σ H x y v u Q I rx ry h
  obtain ⟨l, b, xs, zs, rfl, rfl, hH, hB, hz, q⟩ := h
  cases rx
  cases ry
  obtain ⟨z, its, n, r, hl, e⟩ := I.lstM hH
  obtain ⟨z2, its2, n2, r2, hl2, e2⟩ := I.lstM hB
  refine PySem.P.add_list e e2 ?_ (by rw [List.size_toArray, List.size_toArray]; omega)
  have ea : its.toArray ++ its2.toArray = (its ++ its2).toArray := by simp
  rw [ea]
  exact ⟨.ref _, _, I.lnew (t' := s.toks) (r.append r2) (by rw [List.length_append]; omega), rfl, q _ I.fresh⟩
/-- a list times an int (a negative one is nothing) -/
def rRep : R2 := fun x y H Q => ∃ l k xs, x = .ref l ∧ y = .int k ∧ H l = some (.lst xs) ∧ -(2 ^ 63) ≤ k ∧ k < 2 ^ 63 ∧ xs.length * k.toNat ≤ sizeLine ∧
  ∀ p, H p = none → Q (.ref p) (upd H p (.lst (List.replicate k.toNat xs).flatten))
theorem len_rep {α : Type} (xs : List α) (k : Nat) : (List.replicate k xs).flatten.length = k * xs.length := by
  induction k with
  | zero => simp
  | succ k ih => rw [List.replicate_succ, List.flatten_cons, List.length_append, ih, Nat.succ_mul, Nat.add_comm]
theorem op_rep : OpR X (binaryOp .Mult) rRep := by
  intro pins s σ H x y v u Q I rx ry h
  obtain ⟨l, k, xs, rfl, rfl, hH, h1, h2, hz, q⟩ := h
  cases rx
  obtain ⟨t, rfl⟩ := ry
  obtain ⟨z, its, n, r, hl, e⟩ := I.lstM hH
  have hlen : its.toArray.size * k.toNat ≤ sizeLine := by rw [List.size_toArray, ← hl]; exact hz
  have hcap : ¬ its.toArray.size * k.toNat > (2 ^ 63 - 1) / 8 := by
    have : (sizeLine : Nat) ≤ (2 ^ 63 - 1) / 8 := by decide
    omega
  have hfit : ¬ (!Builtin.List.listFitsIndex k) = true := by
    rw [fitsIndex_both h1 h2]
    exact Bool.false_ne_true
  have hlong : ¬ Builtin.List.listTooLong (its.toArray.size * k.toNat) = true := by
    rw [notLongL hlen]
    exact Bool.false_ne_true
  have hnew : List.foldl (fun x1 x2 => x1 ++ x2) #[] (List.replicate (if its.toArray.isEmpty = true then 0 else k.toNat) its.toArray) = (List.replicate k.toNat its).flatten.toArray := by
    have f0 : ∀ m : Nat, List.foldl (fun x1 x2 => x1 ++ x2) #[] (List.replicate m its.toArray) = (List.replicate m its).flatten.toArray := fun m => by
      have := foldl_rep its m []
      rw [List.nil_append] at this
      exact this
    rw [f0]
    cases its with
    | nil => simp
    | cons a r' => rw [if_neg (by simp)]
  refine wpAny_binaryOp_repeat_ref (T := "list") (U := "int") (by decide) ⟨_, e, rfl⟩ (fun s' => typeIs_int s' k t) noFill_list_mul F.fills_int_mul F.slot_int_rmul repeat_list F.slot_int_index.lookup
    (call_meets F.slot_int_rmul (typeIs_int s k t) F.entry_int_rmul (F.args_int_rmul_2 _ _) (int___rmul___int_list k t l its.toArray n)
      ⟨e, rfl, ⟨_, e, rfl⟩, call_meets F.slot_list_mul ⟨_, e, rfl⟩ F.entry_list_mul (F.args_list_mul_2 _ _) (AutoListH.list___mul___list_int_3 l its.toArray n k t hfit hcap hlong) ⟨e, ?_⟩⟩)
  rw [hnew]
  exact ⟨.ref _, _, I.lnew (t' := s.toks) (r.rep k.toNat) (by rw [len_rep, Nat.mul_comm]; exact hz), rfl, q _ I.fresh⟩

/-! ### del xs[i] -/
end

/-! ### xs[a:b] = ys -/
section
variable {prog : Program} {w : World} {A : Around} {E : Value → Shared → Prop} {s : Shared}
end

section
variable {X : Cx}
end
end L2

namespace Att
open PySem PySem.W PySem.Calls PyProof.Rows

/-! ### the script -/
theorem ints_of_wellAll {P : Params} {h : Heap} : ∀ (ns : List Int) (vs : List Value), WellAll P h vs (ns.map WData.int) → IntsAre vs ns := by
  intro ns
  induction ns with
  | nil =>
    intro vs w
    rw [List.map_nil] at w
    cases w
    exact .nil
  | cons n ns ih =>
    intro vs w
    rw [List.map_cons] at w
    cases w with
    | cons a b =>
      cases a
      exact .cons _ _ (ih _ b)

theorem script_of {l : OpenLaw} {n : Nat} (hn : l.most = some n) {P : Params} {h : Heap} {args : List WData} {vals : List Value}
    (hpre : l.row.toRowW.claim.pre args = true) (hwl : WellAll P h vals args) :
    ∃ a vs ns, vals = [Value.ref a] ∧ args = [WData.list (ns.map WData.int)] ∧ h.get? a = some { cls := .type "list", data := .seq vs.toArray } ∧ IntsAre vs ns ∧ ns.length ≤ n := by
  have hsh : WShape.hasAll [] args [.list .int] = true := (pre_splitW hpre).1
  have hc : l.pre.holds [] { args := args } = true := (pre_splitW hpre).2
  obtain ⟨d, r, rfl, h1, h2⟩ := hasAllW_cons hsh
  obtain rfl := hasAllW_nil h2
  obtain ⟨xs, rfl, h3⟩ := hasW_list h1
  obtain ⟨ns, rfl⟩ := items_int h3
  have hlen : ns.length ≤ n := by
    unfold OpenLaw.pre at hc
    have h4 : (WTm.not (.lt (.lit (.int (n : Int))) (.len (.arg 0)))).holds [] { args := [.list (ns.map .int)] } = true := by
      have h4 := (holds_andW hc).1
      rw [hn] at h4
      exact h4
    have h5 := condW_of h4 (w_not (w_lt w_lit (w_len_list (w_arg rfl))))
    rw [List.length_map] at h5
    refine Nat.le_of_not_lt fun q => ?_
    have q' : (n : Int) < ((ns.length : Nat) : Int) := by omega
    first
      | (rw [decide_eq_true q'] at h5; exact absurd h5 (by decide))
      | (simp at h5; omega)
  cases hwl with
  | cons w1 w2 =>
    cases w2
    cases w1 with
    | list ho hall => exact ⟨_, _, ns, rfl, rfl, ho, ints_of_wellAll ns _ hall, hlen⟩

theorem post_true (l : OpenLaw) (args : List WData) : l.row.toRowW.claim.post args (.bool true) args = true :=
  postW_of (r := l.row.toRowW) (X := (true == true))
    (show WShape.has [] (.bool true) .bool = true by first | rfl | decide | simp [WShape.has, WShape.arms, WShape.armsAll])
    (show (WTm.eq .res (.lit (.bool true))).value [] { args := args, res := some (.bool true), after := args } = some (.bool (true == true)) from w_eq_bool (w_res rfl) w_lit) rfl

/-! ### the attachment: holds_open's last premise (the goal 'hc' behind k_head) from a wpAny of the law's body -/
/-- the same from a codeAny of the CALL (for a layer whose function contracts speak of calls) -/
theorem attach_call {l : OpenLaw} {n : Nat} {q : Program} {loose : List Str} {XP : (Str → Option Value) → Heap → Prop} {YP : World → Heap → Prop} {d : DefRec}
    (hn : l.most = some n) (hdf : d.params.defaults = [])
    (call : ∀ (w : World) (s₀ s₁ : Shared) (mg mb : Str → Option Value) (fa : Addr) (o : Obj) (pm cd doc : Value) (a : Addr) (vs : List Value) (ns : List Int),
      Ground q loose [] XP w s₀ mg mb s₁.heap → YP w s₁.heap →
      s₁.heap.get? fa = some o → o.data = .func (docDef d.name d.params d.body d.scope pm cd doc) → s₁.heap.CodeRec cd d.name → mg d.name = some (.ref fa) →
      s₁.heap.get? a = some { cls := .type "list", data := .seq vs.toArray } → IntsAre vs ns → ns.length ≤ n → s₁.gens = #[] →
      codeAny (model l.prog w) callerA (.call (.ref fa) ⟨[.ref a], []⟩) (fun r s' => r = .ok (.ret (.bool true)) ∧ OldK s₁.heap s'.heap ∧ s'.os = s₁.os ∧ AllBare s'.gens) s₁) :
    WalkO q loose XP YP l.row.toRowW d [] (fun f vs => PySem.call f vs) := by
  intro w s₀ s₁ mg mb G Y fa o pm cd doc dV kV ho hd hcd hD hmg hg args vals as hpre hlay hrd hwl hlo
  obtain rfl : dV = .none := Dflts.none hD hdf
  obtain rfl : kV = .none := Dflts.noKw hD
  obtain ⟨a, vs, ns, rfl, rfl, hobj, hints, hlen⟩ := script_of hn hpre hwl
  refine enter_call (codeAny_mono (call w s₀ s₁ mg mb fa o pm cd doc a vs ns G Y ho (fd_plain hd) hcd hmg hobj hints hlen hg) fun r s' hq => ?_)
  obtain ⟨rfl, h2, h3, h4⟩ := hq
  exact ⟨.inl ⟨.bool true, .bool true, [], rfl, fun _ => rfl, .bool true, post_true l _, fun _ => ⟨List.Pairwise.nil, fun _ hm => (nomatch hm)⟩⟩, h2, h3, h4⟩

/-! ### rules over ANY heap (no ledger) from facts about the written part K: the library's own take a ledger (News) for what they write -/
section
variable {prog : Program} {w : World} {A : Around} {E : Value → Shared → Prop} {s : Shared} {K : Frag}

/-! the whole heap as the ledger: makes every rule that writes through a ledger a rule over any heap -/
def noObjs (h : Heap) : Heap := { h with objs := #[] }
def ledger (h : Heap) (L d : Addr) : List (Addr × Obj) := (List.range h.objs.size).filterMap fun a => if a = L ∨ a = d then none else (h.get? a).map fun o => (a, o)
end
end Att

namespace L2
open PySem PySem.Spec PyProof.Rows

theorem vals_ints : ∀ {vs : List Value} {ns : List Int}, IntsAre vs ns → Vals (ns.map V.int) vs
  | _, _, .nil => .nil
  | _, _, .cons n t h => .cons ⟨t, rfl⟩ (vals_ints h)

/-- nothing is tracked but the script, known to the object (or it is an object of the module) -/
def Only (H : Hp) : Prop := ∀ b, H b = none ∨ ∃ o xs, H b = some (.frz o (.lst xs))

/-- THE HEAD: the law's promise, at the heap behind the top. F, the promise of the law's def, may use that base is part of the heap (so K.In base, base.Ns mainGlobals mg stand in Mod) -/
theorem law_call {P : Program} {w : World} {K : PySem.W.Frag} {mg mb : Str → Option Value} {CX : CXT} {k : Nat} {fa a : Addr} {fd : FuncData} {x : Str} {sp : Sp} {s₁ : Shared} {vs : List Value} {ns : List Int}
    (KX : K.In s₁.heap) (hns : s₁.heap.Ns mainGlobals mg) (hb : s₁.heap.Ns builtinsNs mb) (hbb : ∀ x : Str, x ≠ "__name__" → mb x = bootBuiltins x) (hlim : s₁.heap.NoLimit) (hg : s₁.gens = #[])
    (ha : s₁.heap.get? a = some { cls := .type "list", data := .seq vs.toArray }) (hi : IntsAre vs ns) (hl : ns.length ≤ sizeLine) (hr : Room k callerA)
    (F : ∀ base : Heap, K.In base → base.Ns mainGlobals mg → FnOk P w K mg base CX k fa fd [x] sp) (hbind : ∀ (s : Shared) (u : Value), BindsTo s fd ⟨[u], []⟩ [(x, u)])
    (hsp : ∀ H : Hp, Only H → SqL K H a (ns.map V.int) → sp [.ref a] H (fun v _ => v = .bl true) fun _ _ _ => False)
    (hCX : ∀ H e s', CX [] H s₁ (fun _ _ _ => False) e s' → False) :
    codeAny (model P w) callerA (.call (.ref fa) ⟨[.ref a], []⟩) (fun r s' => r = .ok (.ret (.bool true)) ∧ OldK s₁.heap s'.heap ∧ s'.os = s₁.os ∧ AllBare s'.gens) s₁ := by
  have rv := vals_ints hi
  have lenV := hi.length
  -- from an abstract heap in which nothing but the script may be tracked
  have core : ∀ H : Hp, Only H → SqL K H a (ns.map V.int) → HOk P w H s₁.heap → (∀ b, H b ≠ none → b = a) → (H a ≠ none → K.lookup a = none) →
      codeAny (model P w) callerA (.call (.ref fa) ⟨[.ref a], []⟩) (fun r s' => r = .ok (.ret (.bool true)) ∧ OldK s₁.heap s'.heap ∧ s'.os = s₁.os ∧ AllBare s'.gens) s₁ := by
    intro H hO hS hok hA hK
    have base_of : ∀ {b : Addr} {o : Obj}, s₁.heap.get? b = some o → H b = none → (hidT s₁.heap H).get? b = some o := fun e n => hidT_get e n
    have noA : ∀ {b : Addr} {o : Obj} {es : Array DictEntry} {ep : Nat}, s₁.heap.get? b = some o → o.data = .dict es ep → H b = none := fun {b o es ep} e d => by
      cases q : H b with
      | none => rfl
      | some u =>
        have e' : b = a := hA b (by rw [q]; simp)
        subst e'
        rw [ha] at e; cases e
        have d' : Data.seq vs.toArray _ = Data.dict es ep := d
        cases d'
    have nsK : ∀ {b : Addr} {m : Str → Option Value}, s₁.heap.Ns b m → (hidT s₁.heap H).Ns b m := fun {b m} ⟨o, es, ep, e, d, r⟩ => ⟨o, es, ep, base_of e (noA e d), d, r⟩
    have hKb : K.In (hidT s₁.heap H) := fun b o e => base_of (KX b o e) (by
      cases q : H b with
      | none => rfl
      | some u =>
        have e' : b = a := hA b (by rw [q]; simp)
        subst e'
        rw [hK (by rw [q]; simp)] at e; cases e)
    have hM : Mod K mg (hidT s₁.heap H) := ⟨hKb, nsK hns, ⟨mb, nsK hb, hbb⟩, let ⟨mc, h1, h2⟩ := hlim; ⟨mc, nsK h1, h2⟩⟩
    have e0 : Env0 P w K mg (hidT s₁.heap H) callerA [] s₁ H := ⟨rfl, hM, fun b o e => of_hidT e, Nat.le_of_eq (hidT_size _ _), trivial, fun b hb => absurd (show b ∈ ([] : List Addr) from hb) (by simp), hok, .of_eq hg⟩
    refine codeAny_mono ((F _ hKb (nsK hns)).run callerA [] s₁ H ⟨[.ref a], []⟩ [.ref a] [.ref a] _ _ hr e0 (hbind s₁ (.ref a)) (.cons rfl .nil) (hsp H hO hS)) fun r s' h => ?_
    cases r with
    | error e => exact (hCX H e s' h).elim
    | ok fl =>
      cases fl with
      | next => exact False.elim h
      | brk => exact False.elim h
      | cont => exact False.elim h
      | ret u =>
        obtain ⟨v, H', os, bare, un, hok', r', q⟩ := h
        have q' : v = .bl true := q
        subst q'
        obtain rfl : u = Value.bool true := r'
        refine ⟨rfl, OldK.of_keep fun b o e => ?_, os, bare⟩
        cases q : H b with
        | none => exact un.keep b o e q (by intro z; exact absurd (show b ∈ ([] : List Addr) from z) (by simp)) (by simp)
        | some u =>
          rcases hO b with z | ⟨ob, xs, z⟩
          · rw [q] at z; cases z
          · have z2 := un.frzs b ob _ z
            obtain ⟨e1, _⟩ := hok b _ z
            obtain ⟨e2, _⟩ := hok' b _ z2
            rw [e] at e1; cases e1
            exact e2
  cases hk : K.lookup a with
  | some o =>
    -- the script is one of the module's own objects
    have e := KX a o hk
    rw [ha] at e
    cases e
    refine core (fun _ => none) (fun _ => .inl rfl) (.inr ⟨_, vs.toArray, _, hk, rfl, rfl, rfl, by rw [List.size_toArray, lenV]; exact hl, by simpa using rv⟩) (fun b u z => by have z' : (none : Option HO) = some u := z; cases z') (fun b z => absurd rfl z) fun z => absurd rfl z
  | none =>
    refine core (fun b => if b = a then some (.frz { cls := .type "list", data := .seq vs.toArray } (.lst (ns.map V.int))) else none) (fun b => ?_) (.inl (.inr ⟨{ cls := .type "list", data := .seq vs.toArray }, if_pos rfl⟩)) (fun b u z => ?_) (fun b z => ?_) fun _ => hk
    · by_cases hb : b = a
      · exact .inr ⟨_, _, if_pos hb⟩
      · exact .inl (if_neg hb)
    · by_cases hb : b = a
      · have z' := (if_pos hb).symm.trans z
        cases z'
        subst hb
        exact ⟨ha, by rw [List.length_map]; exact hl, vs, _, rv, ha⟩
      · have z' := (if_neg hb).symm.trans z
        cases z'
    · by_cases hb : b = a
      · exact hb
      · exact absurd (if_neg hb) z
end L2

namespace L2
open PySem PySem.Spec PyProof.Rows

abbrev KOf {K : PySem.W.Frag} {h : Heap} (_ : K.In h) : PySem.W.Frag := K

/-- the goal that k_head leaves (case hc), from the law's promise. F gives the function object fd (K's own) once, then the promise over every base -/
theorem walk_of {l : PySem.W.OpenLaw} {n k : Nat} {q : Program} {loose : List Str} {XP : (Str → Option Value) → Heap → Prop} {YP : World → Heap → Prop} {d : DefRec} {K : Params → PySem.W.Frag} {CX : World → CXT} {sp : World → Sp} {x : Str}
    (hn : l.most = some n) (hn2 : n ≤ sizeLine) (hdf : d.params.defaults = []) (hr : Room k callerA)
    (hY : ∀ (w : World) (h : Heap), YP w h → (K w.params).In h)
    (F : ∀ (w : World) (mg : Str → Option Value) (fa : Addr) (h : Heap), (K w.params).In h → h.Ns mainGlobals mg → mg d.name = some (.ref fa) →
      ∃ fd : FuncData, (∀ (s : Shared) (u : Value), BindsTo s fd ⟨[u], []⟩ [(x, u)]) ∧
        ∀ base : Heap, (K w.params).In base → base.Ns mainGlobals mg → FnOk l.prog w (K w.params) mg base (CX w) k fa fd [x] (sp w))
    (hsp : ∀ (w : World) (H : Hp) (a : Addr) (ns : List Int), ns.length ≤ n → Only H → SqL (K w.params) H a (ns.map V.int) → sp w [.ref a] H (fun v _ => v = .bl true) fun _ _ _ => False)
    (hCX : ∀ (w : World) (H : Hp) (s : Shared) (e : Value) (s' : Shared), CX w [] H s (fun _ _ _ => False) e s' → False) :
    PySem.W.WalkO q loose XP YP l.row.toRowW d [] (fun f vs => PySem.call f vs) := by
  refine Att.attach_call hn hdf fun w s₀ s₁ mg mb fa o pm cd doc a vs ns G Y ho hd hcd hmg hobj hints hlen hg => ?_
  have KX := hY w _ Y
  obtain ⟨fd, hb, hF⟩ := F w mg fa _ KX G.T.g hmg
  exact law_call KX G.T.g G.T.b G.T.builtins G.T.nolimit hg hobj hints (Nat.le_trans hlen hn2) hr hF hb (fun H hO hS => hsp w H a ns hlen hO hS) fun H e s' => hCX w H s₁ e s'
end L2

/- THE LAST THEOREM (shape; LID, My.* are yours):
   My.Adr: a structure of the addresses that your layer names (classes, functions); My.Txt K t: a structure (Prop) of the equations over K;
   My.txt_mk : {K} {implicit addresses ..} (e1 : nsIn K mainGlobals "law" = some (some (.ref f))) (e2 : K.lookup f = some ⟨oc, od, .func (fnOf "law" "law" params body scope dV kV doc pm an cdv ct), sl⟩) (e3 : codeIn K cdv "law" = true) .. : ∃ t, My.Txt K t

set_option maxRecDepth 100000 in
set_option maxHeartbeats 0 in
theorem PySem.Challenge.cw_LID_holds : PySem.Challenge.rw_LID.Holds := by
  w_on; o_law; k_head; (case hw => w_witness2)
  k_fill
  refine L2.walk_of (l := PySem.Challenge.rw_LID) (n := 63) (k := 40) (x := "script") (CX := fun w => ..) (sp := fun _ => My.sp_law) rfl (by decide) rfl ⟨rfl, by decide, by decide⟩ (fun w h Y => PySem.W.kIn_of Y) ?F ?S ?C
  case F =>
    intro w mg fa h KX G hmg
    have T : ∃ t, My.Txt (L2.KOf KX) t := by
      dsimp only [L2.KOf]                          -- K must stand as «<heap const> w.params» for k_is
      refine' My.txt_mk ?e1 ?e2 ?e3 ..
      (case e1 => PySem.W.k_is)                    -- in the order: a name -> its address -> its object -> its parts
      (case e2 => PySem.W.k_is)
      ..
    obtain ⟨t, T⟩ := T
    have e0 := hmg.symm.trans (PySem.W.mg_of KX G T.law)
    cases e0                                       -- fa is the law's own address
    exact ⟨_, fun s u => .of_eq rfl, fun base kb nb => My.law_fn T kb nb⟩     -- if «.of_eq rfl» comes too early: refine' ⟨_, ?b, fun base kb nb => My.law_fn T kb nb⟩; exact fun s u => .of_eq rfl
  case S => exact fun w H a ns hl hO hS => ..
  case C => exact ..
(the tactic k_is has no namespace: write k_is) -/

/-! SHORT WORDS over the layer: a def of the text, its body, what a loop and a test want. -/
namespace L2
open PySem PySem.Spec PyProof.Rows

/-! ### the text by places -/
/-- the j-th statement of a class's body -/
def inClass (s : Stmt) (j : Nat) : Stmt := match s with
  | .ClassDef _ _ _ body _ _ _ _ _ _ _ => body.getD j (.Pass ⟨0, 0, 0, 0⟩)
  | _ => .Pass ⟨0, 0, 0, 0⟩
def defArgs (s : Stmt) : Arguments := match s with
  | .FunctionDef _ a _ _ _ _ _ _ _ _ => a
  | _ => { posonlyargs := [], args := [], vararg := none, kwonlyargs := [], kw_defaults := [], kwarg := none, defaults := [] }
def defBody (s : Stmt) : List Stmt := match s with
  | .FunctionDef _ _ b _ _ _ _ _ _ _ => b
  | _ => []
def defScope (s : Stmt) : Scope := match s with
  | .FunctionDef _ _ _ _ _ _ sc _ _ _ => sc
  | _ => { kind := .function, names := [], isGenerator := false, isCoroutine := false }

/-! ### no exception leaves a def -/
abbrev CX0 : CXT := fun _ _ _ _ _ _ => False
abbrev E0 : XK := fun _ _ _ => False
/-! ### a def (or method) of the text as it stands behind the top -/
structure Fun (K : PySem.W.Frag) (x qual : Str) (st : Stmt) (f : Addr) (fd : FuncData) : Prop where
  ex : ∃ (oc : Value) (od : Option Addr) (kV doc pm : Value) (an : Option Addr) (cdv ct : Value) (osl : Array (Option Value)),
    fd = PySem.W.fnOf x qual (defArgs st) (defBody st) (defScope st) .none kV doc pm an cdv ct ∧ K.lookup f = some ⟨oc, od, .func fd, osl⟩ ∧ PySem.W.codeIn K cdv qual = true
  kp : PySem.W.keepIn K (.ref f) = true
section
variable {P : Program} {w : World} {K : PySem.W.Frag} {mg : Str → Option Value} {base : Heap}
/-- how its arguments bind (no defaults): h is «fun _ _ _ _ _ _ us hl => match us, hl with | [_, _], _ => rfl», one _ a parameter -/
theorem Fun.binds {x qual : Str} {st : Stmt} {f : Addr} {fd : FuncData} {ps : List Str} (F : Fun K x qual st f fd)
    (h : ∀ (kV doc pm : Value) (an : Option Addr) (cdv ct : Value) (us : List Value), us.length = ps.length → bindArgs (PySem.W.fnOf x qual (defArgs st) (defBody st) (defScope st) .none kV doc pm an cdv ct) ⟨us, []⟩ = pure (ps.zip us)) : Binds K fd ps [] := by
  obtain ⟨oc, od, kV, doc, pm, an, cdv, ct, osl, rfl, lk, hcd⟩ := F.ex
  exact .all (h kV doc pm an cdv ct)
theorem fun_mk {x qual : Str} {st : Stmt} {f : Addr} {oc : Value} {od an : Option Addr} {osl : Array (Option Value)} {kV doc pm cdv ct : Value} (l : K.lookup f = some ⟨oc, od, .func (PySem.W.fnOf x qual (defArgs st) (defBody st) (defScope st) .none kV doc pm an cdv ct), osl⟩)
    (c : PySem.W.codeIn K cdv qual = true) (k : PySem.W.keepIn K (.ref f) = true) : Fun K x qual st f (PySem.W.fnOf x qual (defArgs st) (defBody st) (defScope st) .none kV doc pm an cdv ct) := ⟨⟨oc, od, kV, doc, pm, an, cdv, ct, osl, rfl, l, c⟩, k⟩
end
/-! ### expressions in short: the name that stands in the i-th slot -/
section
variable {X : Cx}
end

/-! ### tests -/
theorem iteF {A B : Prop} (h : B) : if false = true then A else B := by
  rw [if_neg Bool.false_ne_true]
  exact h
theorem iteT {A B : Prop} (h : A) : if true = true then A else B := by
  rw [if_pos rfl]
  exact h
/-! ### heaps -/
/-- all that was tracked is as it was -/
def Same (H H' : Hp) : Prop := ∀ b o, H b = some o → H' b = some o
theorem Same.refl (H : Hp) : Same H H := fun _ _ h => h
theorem Same.trans {H H1 H2 : Hp} (a : Same H H1) (b : Same H1 H2) : Same H H2 := fun c o h => b c o (a c o h)
theorem Same.free {H H' : Hp} (e : Same H H') {l : Addr} (h : H' l = Option.none) : H l = Option.none := by
  cases q : H l with
  | none => rfl
  | some o =>
    rw [e l o q] at h
    cases h
theorem Same.seq {K : PySem.W.Frag} {H H' : Hp} {a : Addr} {xs : List V} (e : Same H H') (h : SqL K H a xs) : SqL K H' a xs := by
  rcases h with (h | ⟨o, h⟩) | h
  · exact .inl (.inl (e _ _ h))
  · exact .inl (.inr ⟨o, e _ _ h⟩)
  · exact .inr h

end L2

set_option Elab.async false
set_option linter.all false
set_option maxRecDepth 100000
set_option maxHeartbeats 4000000
namespace L2
open PySem PySem.Spec PyProof.Rows
section
variable {P : Program} {w : World}
theorem ObjOk.here {H : Hp} {h : Heap} {a : Addr} {o : HO} (x : ObjOk P w H h a o) : ∃ ob, h.get? a = some ob := by
  cases o with
  | lst xs => obtain ⟨_, _, _, _, e⟩ := x; exact ⟨_, e⟩
  | tup xs => obtain ⟨_, _, _, ob, e, _⟩ := x; exact ⟨ob, e⟩
  | dK kvs => obtain ⟨_, _, _, _, ob, _, _, e, _⟩ := x; exact ⟨ob, e⟩
  | dT kvs => obtain ⟨_, _, _, _, ob, _, _, e, _⟩ := x; exact ⟨ob, e⟩
  | set S n => obtain ⟨ob, _, _, _, e, _⟩ := x; exact ⟨ob, e⟩
  | ins C dx fs => obtain ⟨_, _, _, e, _⟩ := x; exact ⟨_, e⟩
  | own y => exact x
  | xd fs => obtain ⟨_, ⟨ob, _, _, e, _⟩, _⟩ := x; exact ⟨ob, e⟩
  | rng lo hi => obtain ⟨_, _, _, e⟩ := x; exact ⟨_, e⟩
  | frz ob u => obtain ⟨e, _⟩ := x; exact ⟨_, e⟩
  | tbl ps => exact ⟨_, show h.get? a = some _ from x⟩
  | met f y => exact ⟨_, show h.get? a = some _ from x⟩
  | ext φ => obtain ⟨_, z, _⟩ := x; exact z

/-- an exception stands at x: the object o but for its record, in flight from fl; B: what no station of the flight touches; l: the frames that it may write slots of -/
def FlA (B : Heap) (l : List Env) (x : Addr) (o : Obj) (fl : Value) (h : Heap) : Prop :=
  B.StaysIn h ∧ B.get? x = none ∧ h.FunFrames B l ∧ ∃ (vs : Array Value) (T : Addr) (oT : Obj) (ts : Array Value), h.get? x = some { o with data := .fields vs } ∧ vs[2]? = some .none ∧ vs[1]? = some (.ref T) ∧
    B.get? T = none ∧ T ≠ x ∧ h.get? T = some oT ∧ oT.data = .fields ts ∧ ts[3]? = some fl
section
variable {M : Model} {A : Around} {E : Value → Shared → Prop} {s : Shared} {B : Heap} {env : Env} {outer l : List Env} {L x : Addr} {o : Obj} {vs : Array Value} {Q : Unit → Shared → Prop}
theorem upTo_other {h h' : Heap} {T : Addr} {oT : Obj} {ts : Array Value} (hT : h.get? T = some oT) (hd : oT.data = .fields ts) (k : ∀ b, b ≠ T → h'.get? b = h.get? b) : h.UpToSlots h' := fun b ob e hn =>
  ⟨ob.slots, (k b fun z => by rw [z, hT] at e; cases e; exact hn _ hd).trans e⟩
theorem frames_up {h h' : Heap} (hl : h.FunFrames B l) (u : h.UpToSlots h') : h'.FunFrames B l := hl.of_keeps fun b ob e hn => by
  obtain ⟨sl, q⟩ := u b ob e hn
  exact ⟨_, q, rfl⟩
/-- a new record of the traceback for this frame -/
theorem fl_entry {head : Value} {had : Bool} (hfr : A.frames = some (env :: outer)) (hf : env.frame = some L) (hB : B.StaysIn s.heap) (hn : B.get? x = none) (hl : s.heap.FunFrames B (env :: outer)) (hx : s.heap.get? x = some { o with data := .fields vs }) (h1 : 1 < vs.size) (h2 : vs[2]? = some .none)
    (h : ∀ h', FlA B (env :: outer) x o (rawInt L) h' → s.heap.UpToSlots h' → Q () { s with heap := h' }) :
    wpAny M A (do let a ← frameOf env; let pl ← entryPlaceOf L had; let n ← EntryCells.newEntry head a .none (rawInt L) .none pl; setField (.ref x) 1 n) Q E s := by
  refine wpAny_bind (wpAny_frameOf_fun hfr hl hf fun g1 S1 => wpAny_bind (wpAny_entryPlaceOf fun pl hpl => ?_))
  have nx : x ∉ (env :: outer).filterMap (·.frame) := fun z => by
    obtain ⟨_, ob, e, d⟩ := hl.mem z
    rw [hx] at e; cases e
    exact d _ rfl
  have hx1 : g1.get? x = some { o with data := .fields vs } := (S1.2.1 x nx).trans hx
  unfold EntryCells.newEntry newFields
  refine wpAny_bind (wpAny_newObj_type ?_ (hpl.sizeOk5 _ _ _ _ _))
  have hx2 := Heap.get?_push_of_some (h := g1) { cls := .type "traceback", dict := none, data := .fields ([head, .ref L, .none, rawInt L, .none] ++ (if pl.isEmpty then List.replicate 6 Value.none else pl)).toArray } hx1
  refine wpAny_setField hx2 rfl h1 (h _ ?_ ?_)
  · have up1 : ∀ b ob, b ≠ x → g1.get? b = some ob → ((g1.push { cls := .type "traceback", dict := none, data := .fields ([head, .ref L, .none, rawInt L, .none] ++ (if pl.isEmpty then List.replicate 6 Value.none else pl)).toArray }).update x (Obj.mapFields (·.setIfInBounds 1 (Value.ref g1.objs.size)))).get? b = some ob := fun b ob nb e =>
      (Heap.get?_update_other _ _ (Ne.symm nb)).trans (Heap.get?_push_of_some _ e)
    have neT : g1.objs.size ≠ x := Nat.ne_of_gt (Heap.lt_size hx1)
    refine ⟨fun b ob e => up1 b ob (fun z => by rw [z, hn] at e; cases e) ((S1.2.1 b fun z => by rw [(hl.mem z).1] at e; cases e).trans (hB b ob e)), hn, hl.of_keeps fun b ob e d => ?_, vs.setIfInBounds 1 (.ref g1.objs.size), g1.objs.size, _, _, Heap.get?_update_self _ hx2 rfl, by rw [Array.getElem?_setIfInBounds_ne (by decide)]; exact h2, by simp [h1], ?_, neT,
      (Heap.get?_update_other _ _ (Ne.symm neT)).trans (Heap.get?_push_size g1 rfl), rfl, ?_⟩
    · obtain ⟨sl, q⟩ := S1.2.2 b ob e
      exact ⟨_, up1 b _ (fun z => by rw [z, hx] at e; cases e; exact d _ rfl) q, rfl⟩
    · cases q : B.get? g1.objs.size with
      | none => rfl
      | some ob =>
        have := Heap.lt_size (hB _ _ q)
        rw [← S1.1] at this
        exact absurd this (Nat.lt_irrefl _)
    · first
        | (simp; done)
        | (rcases hpl with rfl | ⟨_, _, _, _, _, _, _, rfl⟩ <;> simp)
  · intro b ob e d
    obtain ⟨sl, q⟩ := S1.2.2 b ob e
    refine ⟨sl, ?_⟩
    rw [Heap.get?_update_other _ _ (fun z : x = b => by rw [← z, hx] at e; cases e; exact d _ rfl)]
    exact Heap.get?_push_of_some _ q
theorem fl_first (hfr : A.frames = some (env :: outer)) (hf : env.frame = some L) (hB : B.StaysIn s.heap) (hn : B.get? x = none) (hl : s.heap.FunFrames B (env :: outer)) (hx : s.heap.get? x = some { o with data := .fields vs }) (h1 : vs[1]? = some .none) (h2 : vs[2]? = some .none)
    (h : ∀ h', FlA B (env :: outer) x o (rawInt L) h' → s.heap.UpToSlots h' → Q () { s with heap := h' }) : wpAny M A (noteFrame (.ref x) env) Q E s := by
  unfold noteFrame
  simp only [hf]
  refine wpAny_bind (wpAny_field hx rfl h1 ?_)
  rw [if_neg (by decide)]
  exact fl_entry hfr hf hB hn hl hx (Array.getElem?_eq_some_iff.mp h1).1 h2 h
theorem fl_on (hfr : A.frames = some (env :: outer)) (hf : env.frame = some L) (R : FlA B (env :: outer) x o .none s.heap)
    (h : ∀ h', FlA B (env :: outer) x o (rawInt L) h' → s.heap.UpToSlots h' → Q () { s with heap := h' }) : wpAny M A (noteFrame (.ref x) env) Q E s := by
  obtain ⟨hB, hn, hl, vs, T, oT, ts, hx, h2, h1, nT, nTx, hT, dT, h3⟩ := R
  unfold noteFrame
  simp only [hf]
  refine wpAny_bind (wpAny_field hx rfl h1 ?_)
  rw [if_pos (show (Value.ref T != Value.none) = true by simp)]
  refine wpAny_bind (wpAny_field hT dT h3 ?_)
  rw [if_neg (show ¬ ((Value.none == rawInt L) = true) by simp [rawInt])]
  refine wpAny_bind (wpAny_setField hT dT (Array.getElem?_eq_some_iff.mp h3).1 ?_)
  have oth : ∀ b, b ≠ T → (s.heap.update T (Obj.mapFields (·.setIfInBounds 3 Value.none))).get? b = s.heap.get? b := fun b nb => Heap.get?_update_other _ _ (Ne.symm nb)
  have u := upTo_other hT dT oth
  exact fl_entry hfr hf (fun b ob e => (oth b fun z => by rw [z, nT] at e; cases e).trans (hB b ob e)) hn (frames_up hl u) ((oth x (Ne.symm nTx)).trans hx) (Array.getElem?_eq_some_iff.mp h1).1 h2 fun h' F' u' => h h' F' (u.trans u')
theorem fl_land {fl : Value} (R : FlA B l x o fl s.heap) (h : ∀ h', FlA B l x o .none h' → s.heap.UpToSlots h' → Q () { s with heap := h' }) : wpAny M A (setFlight (.ref x) none) Q E s := by
  obtain ⟨hB, hn, hl, vs, T, oT, ts, hx, h2, h1, nT, nTx, hT, dT, h3⟩ := R
  unfold setFlight
  refine wpAny_bind (wpAny_field hx rfl h1 ?_)
  rw [if_pos (show (Value.ref T != Value.none) = true by simp)]
  have z3 := (Array.getElem?_eq_some_iff.mp h3).1
  have oth : ∀ b, b ≠ T → (s.heap.update T (Obj.mapFields (·.setIfInBounds 3 ((none : Option Addr).elim Value.none fun f => rawInt f)))).get? b = s.heap.get? b := fun b nb => Heap.get?_update_other _ _ (Ne.symm nb)
  have u := upTo_other hT dT oth
  refine wpAny_setField hT dT z3 (h _ ⟨fun b ob e => (oth b fun z => by rw [z, nT] at e; cases e).trans (hB b ob e), hn, frames_up hl u, vs, T, _, _, (oth x (Ne.symm nTx)).trans hx, h2, h1, nT, nTx, Heap.get?_update_self _ hT (Obj.isFreed_of_fields (Obj.data_mapFields dT _)), Obj.data_mapFields dT _, by simp [z3]⟩ u)
theorem fl_pop {fl : Value} {h : Heap} (R : FlA B (env :: outer) x o fl h) : FlA B outer x o fl h := by
  obtain ⟨hB, hn, ⟨_, _, hl⟩, r⟩ := R
  exact ⟨hB, hn, hl, r⟩
end

/-- an exception flies over the frames l: ahead stood (h, H), now (h', H') -/
structure Fly (P : Program) (w : World) (l : List Env) (H H' : Hp) (h h' B : Heap) (x : Addr) (o : Obj) : Prop where
  un : Un (frs l) [] H H' h h'
  ok : HOk P w H' B
  fly : FlA B l x o .none h'
  inB : ∀ b u, h.get? b = some u → H b = none → b ∉ frs l → B.get? b = some u
  thB : ∀ b u, h.get? b = some u → b ∉ frs l → ∃ u', B.get? b = some u'
variable {l : List Env} {H H' : Hp} {h h' h'' B : Heap} {x : Addr} {o : Obj}
end

/-- how an exception lies behind a call -/
def CX1 (P : Program) (w : World) : CXT := fun outer H s E e s' =>
  ∃ x o H' B, e = .ref x ∧ s'.os = s.os ∧ AllBare s'.gens ∧ Fly P w outer H H' s.heap s'.heap B x o ∧ E o.cls o.dict H'

section
variable {X : Cx} {pins : List (Addr × Obj)} {σ : St} {H H' : Hp} {s : Shared} {h'' B : Heap} {x : Addr} {ox : Obj}
/-- the frame at the top is left -/
theorem Fly.leave (I : Inv X pins σ H s) (hex : X.ex = []) (hst : ∀ b ∈ frs X.outer, b ∈ frs X.stack) (ok : HOk X.prog X.w H' B) (f : FlA B X.outer x ox .none h'') (nx0 : X.s₀.heap.get? x = none)
    (inB : ∀ b o, b ≠ x → s.heap.get? b = some o → H b = none → b ∉ frs X.stack → B.get? b = some o)
    (thB : ∀ b o, b ≠ x → s.heap.get? b = some o → b ∉ frs X.stack → ∃ o', B.get? b = some o')
    (sl : ∀ b o, s.heap.get? b = some o → b ∈ frs X.stack → ∃ sl, h''.get? b = some { o with slots := sl })
    (free : ∀ b o, s.heap.get? b = some o → H b = none → H' b = none)
    (tups : ∀ b xs, H b = some (.tup xs) → H' b = some (.tup xs)) (frzs : ∀ b o u, H b = some (.frz o u) → H' b = some (.frz o u))
    (tbls : ∀ b ps, H b = some (.tbl ps) → ∃ more, H' b = some (.tbl (ps ++ more))) : Fly X.prog X.w X.outer X.H₀ H' X.s₀.heap h'' B x ox := by
  have nX : ∀ b o, X.s₀.heap.get? b = some o → b ≠ x := fun b o e z => by rw [z, nx0] at e; cases e
  have noX : ∀ b : Addr, b ∉ X.ex := fun b z => by rw [hex] at z; cases z
  have nS : ∀ b o, X.s₀.heap.get? b = some o → b ∉ frs X.outer → b ∉ frs X.stack := fun b o e hb z =>
    (List.mem_cons.mp (I.stkSub b z)).elim (fun q => Nat.ne_of_lt (Nat.lt_of_lt_of_le (Heap.lt_size e) I.ok.above) q) hb
  refine ⟨⟨fun b o e n hb _ => ?_, fun b o e n hb _ => ?_, fun b o e n _ => ?_, fun b o e _ => ?_, fun b xs e => tups b xs (I.base.tups b xs e), fun b o u e => frzs b o u (I.base.frzs b o u e), fun b ps e => ?_⟩, ok, f, fun b o e n hb => ?_, fun b o e hb => ?_⟩
  · exact f.1 b o (inB b o (nX b o e) (I.base.keep b o e n hb (noX b)) (I.base.free b o e n (noX b)) (nS b o e hb))
  · obtain ⟨s1, e1⟩ := I.base.slot b o e n hb (noX b)
    obtain ⟨s2, e2⟩ := sl b _ e1 (hst b hb)
    exact ⟨s2, e2⟩
  · obtain ⟨o', e1⟩ := I.base.there b o e (noX b)
    exact free b o' e1 (I.base.free b o e n (noX b))
  · obtain ⟨o', e1⟩ := I.base.there b o e (noX b)
    by_cases hb : b ∈ frs X.stack
    · obtain ⟨s2, e2⟩ := sl b _ e1 hb
      exact ⟨_, e2⟩
    · obtain ⟨o2, q⟩ := thB b o' (nX b o e) e1 hb
      exact ⟨o2, f.1 _ _ q⟩
  · obtain ⟨m1, e1⟩ := I.base.tbls b ps e
    obtain ⟨m2, e2⟩ := tbls b _ e1
    exact ⟨m1 ++ m2, by rw [e2, Array.append_assoc]⟩
  · exact inB b o (nX b o e) (I.base.keep b o e n hb (noX b)) (I.base.free b o e n (noX b)) (nS b o e hb)
  · obtain ⟨o', e1⟩ := I.base.there b o e (noX b)
    exact thB b o' (nX b o e) e1 (nS b o e hb)
end

/-- the body's exceptions: R of the names' values where it comes up; a callee's, and one that is raised here -/
def PassesR (CX : CXT) (X : Cx) (R : St → XK) : Prop := ∀ (pins : List (Addr × Obj)) (σ : St) (H : Hp) (s : Shared) (e : Value) (s' : Shared), Inv X pins σ H s → CX X.stack H s (R σ) e s' → X.xe e s'
def Raises (X : Cx) (R : St → XK) : Prop := ∀ (pins : List (Addr × Obj)) (σ : St) (H : Hp) (s : Shared) (x : Addr) (o : Obj) (vs : Array Value), Inv X pins σ H s → s.heap.get? x = some { o with data := .fields vs } → vs[1]? = some .none → vs[2]? = some .none → X.s₀.heap.get? x = none → H x = none →
  R σ o.cls o.dict H → X.xe (.ref x) s
section
variable {P : Program} {w : World} {K : PySem.W.Frag} {mg : Str → Option Value} {base : Heap} {N : List Str} {qual : Str} {scope : Scope} {f : Addr} {cd : Value} {A : Around} {outer : List Env} {s₀ : Shared} {H₀ : Hp} {E : XK}
theorem stk_sub {env : Env} {outer : List Env} : ∀ b ∈ frs outer, b ∈ frs (env :: outer) := fun b hb => by
  obtain ⟨en, he, hf⟩ := List.mem_filterMap.mp hb
  exact List.mem_filterMap.mpr ⟨en, List.mem_cons_of_mem _ he, hf⟩
theorem passes1 : PassesR (CX1 P w) (cxOf (CX1 P w) P w K mg base N qual scope f cd A outer s₀ H₀ E) (fun _ => E) := by
  intro pins σ H s e s' I hx
  obtain ⟨x, o, H', B, rfl, os, bare, F, hE⟩ := hx
  show wpAny _ _ (do noteFrame (.ref x) _; setFlight (.ref x) none) _ _ s'
  refine wpAny_bind (fl_on (B := B) I.ok.frames rfl F.fly fun h4 f4 u4 => fl_land f4 fun h5 f5 u5 => ?_)
  refine ⟨x, o, H', B, rfl, os.trans I.os, bare, Fly.leave I rfl stk_sub F.ok (fl_pop f5) ?_ (fun b o _ => F.inB b o) (fun b o _ => F.thB b o) (fun b o q hb => ?_) (fun b o q n => F.un.free b o q n (by simp)) F.un.tups F.un.frzs F.un.tbls, hE⟩
  · show s₀.heap.get? x = none
    cases q : s₀.heap.get? x with
    | none => rfl
    | some u =>
      obtain ⟨u', e1⟩ := I.base.there x u q (fun z => nomatch z)
      by_cases hb : x ∈ frs (cxOf (CX1 P w) P w K mg base N qual scope f cd A outer s₀ H₀ E).stack
      · obtain ⟨vs, _, _, _, hxx, _⟩ := F.fly.2.2.2
        obtain ⟨_, o', ho', hd⟩ := F.fly.2.2.1.mem hb
        rw [hxx] at ho'; cases ho'
        exact absurd rfl (hd _)
      · obtain ⟨u2, e2⟩ := F.thB x u' e1 hb
        rw [F.fly.2.1] at e2; cases e2
  · obtain ⟨sl, e1⟩ := F.un.slot b o q (I.stkFree b hb) hb (by simp)
    obtain ⟨_, o', ho', hd⟩ := F.fly.2.2.1.mem hb
    rw [e1] at ho'; cases ho'
    obtain ⟨sl2, e2⟩ := (u4.trans u5) b _ e1 hd
    exact ⟨sl2, e2⟩
theorem raises1 : Raises (cxOf (CX1 P w) P w K mg base N qual scope f cd A outer s₀ H₀ E) (fun _ => E) := by
  intro pins σ H s x o vs I hx h1 h2 nx0 nH hE
  show wpAny _ _ (do noteFrame (.ref x) _; setFlight (.ref x) none) _ _ s
  have hin : ∀ env ∈ (cxOf (CX1 P w) P w K mg base N qual scope f cd A outer s₀ H₀ E).stack, ∀ b, env.frame = some b → b ∈ x :: frs (cxOf (CX1 P w) P w K mg base N qual scope f cd A outer s₀ H₀ E).stack :=
    fun env he b hb => List.mem_cons_of_mem _ (List.mem_filterMap.mpr ⟨env, he, hb⟩)
  refine wpAny_bind (fl_first (B := PySem.W.hideAll s.heap (x :: frs (cxOf (CX1 P w) P w K mg base N qual scope f cd A outer s₀ H₀ E).stack)) I.ok.frames rfl (fun b o q => PySem.W.of_hideAll _ q) (PySem.W.hideAll_none _ List.mem_cons_self)
    (PySem.W.funFrames_hide I.stack hin) hx h1 h2 fun h4 f4 u4 => fl_land f4 fun h5 f5 u5 => ?_)
  have hid : ∀ b u, b ≠ x → s.heap.get? b = some u → b ∉ frs (cxOf (CX1 P w) P w K mg base N qual scope f cd A outer s₀ H₀ E).stack → (PySem.W.hideAll s.heap (x :: frs (cxOf (CX1 P w) P w K mg base N qual scope f cd A outer s₀ H₀ E).stack)).get? b = some u :=
    fun b u nb q hb => PySem.W.hideAll_get _ q fun z => (List.mem_cons.mp z).elim nb hb
  refine ⟨x, o, H, _, rfl, I.os, I.bare, Fly.leave I rfl stk_sub (fun a o e => (I.hok a o e).stay (fun b v hb q => ?_) (fun _ q => q) fun _ _ q => q) (fl_pop f5) nx0
    (fun b o nb q _ hb => hid b o nb q hb) (fun b o nb q hb => ⟨o, hid b o nb q hb⟩) (fun b o q hb => ?_) (fun _ _ _ n => n) (fun _ _ q => q) (fun _ _ _ q => q) (fun b ps q => ⟨#[], by rw [q]; simp⟩), hE⟩
  · have tr : H b ≠ none := fun n => by
      rcases hb with hb | hb
      · rw [hb, e] at n; cases n
      · rw [hb] at n; cases n
    exact hid b v (fun z => tr (by rw [z]; exact nH)) q fun z => tr (I.stkFree b z)
  · obtain ⟨_, o', ho', hd⟩ := I.stack.mem hb
    rw [q] at ho'; cases ho'
    exact (u4.trans u5) b o q hd
end

/-! ### a call whose exception may pass -/
def tCallR (sp : Sp) (dvs : List V) (R : St → XK) (t : TA) : TE := fun σ H Q => t σ H fun vs H1 => sp (vs ++ dvs) H1 Q (R σ)
section
variable {X : Cx} {CX : CXT} {k : Nat} {f : Addr} {fd : FuncData} {ps : List Str} {sp : Sp} {dvs : List V} {ds : List Value} {R : St → XK} {x : Str} {p pos : Pos} {e : Expr} {es : List Expr} {t : TA}
theorem run_fnR {pins : List (Addr × Obj)} {σ : St} {H : Hp} {s : Shared} {Q : VK} {us : List Value} {vs : List V} (F : FnOk X.prog X.w X.K X.mg X.base CX k f fd ps sp) (hr : Room k X.A) (hb : Binds X.K fd ps ds) (hd : Vals dvs ds) (hx : PassesR CX X R)
    (I : Inv X pins σ H s) (r : Vals vs us) (h : sp (vs ++ dvs) H Q (R σ)) : wpAny (model X.prog X.w) X.A (call (.ref f) us) (EP X pins σ Q) X.xe s := by
  have r2 : Vals (vs ++ dvs) (us ++ ds) := r.append hd
  have hl : (us ++ ds).length = ps.length := by rw [← r2.length]; exact F.len _ _ _ _ h
  refine wpAny_call (codeAny_mono (F.run X.A X.stack s H ⟨us, []⟩ (us ++ ds) (vs ++ dvs) Q (R σ) hr I.env0 (hb s us I.kIn hl) r2 h) fun r s' hq => ?_)
  cases r with
  | error e => exact hx pins σ H s e s' I hq
  | ok fl =>
    cases fl with
    | ret u => exact I.after hq
    | next => exact False.elim hq
    | brk => exact False.elim hq
    | cont => exact False.elim hq
theorem pe_callR (F : FnOk X.prog X.w X.K X.mg X.base CX k f fd ps sp) (hr : Room k X.A) (hg : Gl X x) (hm : X.mg x = some (.ref f)) (hk : PySem.W.keepIn X.K (.ref f) = true) (hb : Binds X.K fd ps ds) (hd : Vals dvs ds) (hx : PassesR CX X R)
    (ha : PA X (e :: es) t) (hdb : (x == ("__debug__" : Str)) = false := by decide) (he : starEach (e :: es) X.env = (false, eval e X.env) :: starEach es X.env := by rfl) (hpl : (backTo pos (starEach es X.env)).any (·.1) = false := by rfl) :
    PE X (.Call (.Name x p) (e :: es) [] pos) (tCallR sp dvs R t) := by
  intro pins s σ H Q I h
  refine wpAny_Call_Name_kw (ld_glob I hg hm ?_ hdb)
  refine PySem.W.callWith_K (h₀ := X.base) I.ok.mod.kin hk (thn (ha pos pins s σ H _ I h) fun us s1 ⟨vs, H1, I1, r, q⟩ => ⟨I1.kIn, ?_⟩) he hpl
  exact run_fnR F hr hb hd hx I1 r q
end

/-! ### raise C(args), C an own class under ValueError without __init__ -/
/-- the class at C, as the top has made it -/
structure ExcCls (K : PySem.W.Frag) (C : Addr) (bmB : List Value) (newId : String) : Prop where
  ok : PySem.W.excIn K C bmB newId = true
theorem ns_same {K : PySem.W.Frag} {N : Addr} {h0 h : Heap} {m : Str → Option Value} (q : PySem.W.nsOkIn K N = true) (X0 : K.In h0) (X : K.In h) (n : h0.Ns N m) : h.Ns N m := by
  obtain ⟨o, es, ep, e, r⟩ := n
  cases z : K.lookup N with
  | none => unfold PySem.W.nsOkIn at q; rw [z] at q; cases q
  | some ob =>
    have e0 := X0 _ _ z
    rw [e] at e0
    cases e0
    exact ⟨o, es, ep, X _ _ z, r⟩
theorem ExcCls.obj {K : PySem.W.Frag} {C : Addr} {bmB : List Value} {newId : String} {h0 : Heap} (c : ExcCls K C bmB newId) (X0 : K.In h0) :
    ∃ bm N nm q bs hdct sn sub ab col dd k0 k1 k2 k3 k5 mN, mN ("__init__" : Str) = none ∧
      ∀ h : Heap, K.In h → h.get? C = some (excClassObj nm q C N bs bm hdct sn sub ab col dd k0 k1 k2 k3 k5 newId) ∧ h.Ns N mN ∧ OwnTail h bmB bm := by
  have q := c.ok
  unfold PySem.W.excIn at q
  split at q
  · rename_i dd cd sl ho
    split at q
    · rename_i C' bm k0 k1 k2 k3 n k5 hm hs
      rw [Bool.and_eq_true, Bool.and_eq_true, Bool.and_eq_true, Bool.and_eq_true, Bool.and_eq_true] at q
      obtain ⟨⟨⟨⟨⟨q1, q2⟩, q3⟩, q4⟩, q5⟩, q6⟩ := q
      cases beq_iff_eq.mp q1
      cases beq_iff_eq.mp q2
      have q3 : cd.hasDel = false := by simpa using q3
      have hsl : sl = #[k0, k1, k2, k3, some (.builtin newId), k5] := by
        cases sl with | mk l => exact congrArg Array.mk hs
      obtain ⟨c1, c2, c3, c4, c5, c6, c7, c8, c9, c10, c11⟩ := cd
      cases (show c3 = _ from hm)
      cases (show c11 = _ from q3)
      subst hsl
      refine ⟨bm, c4, c1, c5, c2, c6, c7, c8, c9, c10, dd, k0, k1, k2, k3, k5, h0.nsMap c4, PySem.W.nsMap_none_of_in X0 q5 (beq_iff_eq.mp q6), fun h X => ⟨X _ _ ho, ?_, PySem.W.tail_of_in X q4⟩⟩
      exact ns_same q5 X0 X (.of_isNs (PySem.W.isNs_of_in X0 q5))
    · cases q
  · cases q
def tRaise (C : Addr) (R : St → XK) (t : TA) : TS := fun _ σ H => t σ H fun vs H1 => vs.length ≤ sizeLine ∧ R σ (.ref C) none H1
section
variable {X : Cx} {C : Addr} {R : St → XK} {t : TA} {Bn newId initId : String} {bmB : List Value} {x : Str} {np cpos pos : Pos} {e : Expr} {es : List Expr}
theorem ps_raise (hR : Raises X R) (hc : X.calm = true) (hex : X.ex = []) (F : ExcBaseFacts Bn newId initId bmB) (c : ExcCls X.K C bmB newId) (hg : Gl X x) (hm : X.mg x = some (.ref C)) (ha : PA X (e :: es) t)
    (hdb : (x == ("__debug__" : Str)) = false := by decide) (he : starEach (e :: es) X.env = (false, eval e X.env) :: starEach es X.env := by rfl) (hpl : (backTo cpos (starEach es X.env)).any (·.1) = false := by rfl) :
    PS X (.Raise (some (.Call (.Name x np) (e :: es) [] cpos)) none pos) (tRaise C R t) := by
  intro pins s σ H D I h
  obtain ⟨bm, N, nm, q, bs, hdct, sn, sub, ab, col, dd, k0, k1, k2, k3, k5, mN, hni, hob⟩ := c.obj I.kIn
  refine wpAny_Raise_call_subT (nm := nm) (q := q) (C := C) (N := N) (bs := bs) (bm := bm) (hdct := hdct) (sn := sn) (sub := sub) (ab := ab) (col := col) (dd := dd) (k0 := k0) (k1 := k1) (k2 := k2) (k3 := k3) (k5 := k5) F ((hob _ I.kIn).2.2.hasType F.hasBase) (I.ok.hd hc) (by rw [he]; show (false || (backTo cpos (starEach es X.env)).any (·.1)) = false; rw [hpl]; rfl) hni (ld_glob I hg hm ⟨rfl, ?_⟩ hdb)
  have h2 := ha cpos pins s σ H _ I h
  rw [he] at h2 ⊢
  refine Calls.evalArgs_plain (wpAny_mono h2 (fun us s2 z => ?_) fun _ _ y => y)
  obtain ⟨vs, H1, I1, r, hz, hq⟩ := z
  obtain ⟨g1, g2, g3⟩ := hob _ I1.kIn
  refine ⟨rfl, by rw [← r.length]; exact hz, g1, g2, g3, fun h' x M => ?_⟩
  obtain ⟨t, hx, _, _⟩ := M.there
  refine hR pins σ H1 { s2 with heap := h' } x { cls := .ref C, data := .fields #[] } _ (I1.kept (t' := s2.toks) M.keeps) hx rfl rfl ?_ ?_ hq
  · cases q : X.s₀.heap.get? x with
    | none => rfl
    | some u =>
      obtain ⟨u', e1⟩ := I1.base.there x u q (by rw [hex]; simp)
      rw [M.new] at e1; cases e1
  · cases q : H1 x with
    | none => rfl
    | some u =>
      obtain ⟨ob, e1⟩ := ObjOk.here (I1.hok x u q)
      rw [M.new] at e1; cases e1
end

/-! ### try: body, except D: suite -/
/-- the body of a try: its exceptions come to the handlers -/
def Cx.tryC (X : Cx) (R : St → XK) (pins : List (Addr × Obj)) : Cx := { X with
  pn := X.pn ++ pins
  xe := fun e s' => ∃ pins' σ H s, Inv { X with pn := X.pn ++ pins } pins' σ H s ∧ CX1 X.prog X.w X.stack H s (R σ) e s' }
/-- the suite behind except: the exception at x stands pinned; nothing may leave it -/
def Cx.suite (X : Cx) (x : Addr) (pn : List (Addr × Obj)) : Cx := { X with
  A := X.A.mark (some (.ref x))
  calm := false
  pn := pn
  xe := fun _ _ => False }
section
variable {X : Cx} {pins pn : List (Addr × Obj)} {σ : St} {H : Hp} {s : Shared} {E : Value → Shared → Prop}
end

section
variable {M : Model} {A : Around} {E : Value → Shared → Prop} {K : PySem.W.Frag} {s : Shared}
end

section
variable {X : Cx} {pins : List (Addr × Obj)} {σ : St} {H H' H1 : Hp} {s s0 : Shared} {B h0 : Heap} {x : Addr} {o : Obj}
end
def tTry0 (K : PySem.W.Frag) (D : Addr) (tb : (St → XK) → TS) (ts : TS) : TS := fun Dn σ H => ∃ R : St → XK, tb R Dn σ H ∧
  ∀ σ' cls od H', R σ' cls od H' → ∃ C, cls = .ref C ∧ PySem.W.subIn K (.ref C) (.ref D) = some true ∧ ts Dn σ' H'
section
variable {X : Cx} {body : List Stmt} {D : Addr} {dn : Str} {b₀ : Stmt} {suite : List Stmt} {pos hpos np : Pos} {tb : (St → XK) → TS} {ts : TS} {bmB' : List Value} {newId' : String}
end
end L2
namespace L2
open PySem PySem.Spec PyProof.Rows
/-! ### comprehensions: one clause, a plain name, no test -/
def clOf (env : Env) : List (Str × NameKind) → List (Str × Addr) → List (Str × Addr)
  | [], acc => acc
  | p :: r, acc => clOf env r (if p.2 == .free then (p.1, (env.cells.lookup p.1).getD 0) :: acc else acc)
theorem closure_is {scope : Scope} {env : Env} (h : ∀ p ∈ scope.names, p.2 = .free → (env.cells.lookup p.1).isSome = true) : closureFor scope env = pure (clOf env scope.names []) := by
  have key : ∀ (l : List (Str × NameKind)) (acc : List (Str × Addr)), (∀ p ∈ l, p.2 = .free → (env.cells.lookup p.1).isSome = true) →
      (forIn l acc (fun (p : Str × NameKind) (r : List (Str × Addr)) => (if p.2 == .free then (do let c ← cellOf env p.1; pure (ForInStep.yield ((p.1, c) :: r))) else pure (ForInStep.yield r) : Sem (ForInStep (List (Str × Addr)))))) = (pure (clOf env l acc) : Sem (List (Str × Addr))) := by
    intro l
    induction l with
    | nil => intro acc _; rfl
    | cons p r ih =>
      intro acc hp
      rw [List.forIn_cons]
      have ih' := fun a => ih a fun q hq => hp q (List.mem_cons_of_mem _ hq)
      obtain ⟨n, k⟩ := p
      by_cases hk : k = .free
      · subst hk
        have hs := hp (n, .free) List.mem_cons_self rfl
        cases hl : env.cells.lookup n with
        | none => rw [show env.cells.lookup (n, NameKind.free).1 = none from hl] at hs; cases hs
        | some c =>
          have e1 : clOf env ((n, .free) :: r) acc = clOf env r ((n, c) :: acc) := by
            show clOf env r (if (NameKind.free == NameKind.free) = true then (n, (env.cells.lookup n).getD 0) :: acc else acc) = _
            rw [if_pos (by decide), hl]
            rfl
          have e2 : cellOf env n = pure c := by unfold cellOf; rw [hl]
          rw [e1]
          have e3 : (NameKind.free == NameKind.free) = true := by decide
          simp only [e3, if_true, e2, pure_bind]
          exact ih' _
      · have hb : (k == NameKind.free) = false := by simpa using hk
        have e1 : clOf env ((n, k) :: r) acc = clOf env r acc := by
          show clOf env r (if (k == NameKind.free) = true then (n, (env.cells.lookup n).getD 0) :: acc else acc) = _
          rw [hb, if_neg (by decide)]
        rw [e1]
        simp only [hb, Bool.false_eq_true, if_false, pure_bind]
        exact ih' _
  have := key scope.names [] h
  unfold closureFor
  first
    | exact this
    | (simp only [bind_pure]; exact this)
    | (rw [bind_pure]; exact this)
theorem clOf_look {env : Env} {y : Str} {c : Addr} : ∀ (l : List (Str × NameKind)) (acc : List (Str × Addr)), (∀ p ∈ l, p.2 = .free → (env.cells.lookup p.1).isSome = true) →
    (acc.lookup y = some c → env.cells.lookup y = some c) → (clOf env l acc).lookup y = some c → env.cells.lookup y = some c
  | [], acc, _, ha, h => ha h
  | (n, k) :: r, acc, hp, ha, h => by
    refine clOf_look r _ (fun q hq => hp q (List.mem_cons_of_mem _ hq)) (fun e => ?_) h
    split at e
    · rename_i hk
      rw [List.lookup_cons] at e
      cases q : (y == n) with
      | true =>
        rw [q] at e
        have e' : (env.cells.lookup n).getD 0 = c := Option.some.inj e
        have hn : y = n := by simpa using q
        subst hn
        have hs := hp (y, k) List.mem_cons_self (by simpa using hk)
        cases z : env.cells.lookup y with
        | none => rw [show env.cells.lookup (y, k).1 = none from z] at hs; cases hs
        | some d => rw [z] at e'; rw [← e']; rfl
      | false => rw [q] at e; exact ha e
    · exact ha e
theorem clOf_has {env : Env} {y : Str} : ∀ (l : List (Str × NameKind)) (acc : List (Str × Addr)), ((y, NameKind.free) ∈ l ∨ (acc.lookup y).isSome = true) → ((clOf env l acc).lookup y).isSome = true
  | [], acc, h => by
    rcases h with h | h
    · cases h
    · exact h
  | (n, k) :: r, acc, h => by
    refine clOf_has r _ ?_
    by_cases hy : y = n
    · subst hy
      by_cases hk : k = .free
      · subst hk
        right
        show (List.lookup y (if (NameKind.free == NameKind.free) = true then (y, (env.cells.lookup y).getD 0) :: acc else acc)).isSome = true
        rw [if_pos (by decide), List.lookup_cons, beq_self_eq_true]
        rfl
      · rcases h with h | h
        · rcases List.mem_cons.mp h with z | z
          · exact absurd (Prod.mk.inj z).2.symm hk
          · exact .inl z
        · right
          rw [if_neg (by simpa using hk)]
          exact h
    · rcases h with h | h
      · rcases List.mem_cons.mp h with z | z
        · exact absurd (Prod.mk.inj z).1 hy
        · exact .inl z
      · right
        split
        · rw [List.lookup_cons, show (y == n) = false by simpa using hy]
          exact h
        · exact h
/-- the block's context -/
def Cx.comp (X : Cx) (Nc : List Str) (scope : Scope) (C : Addr) (s : Shared) (H : Hp) (fp : List Addr) : Cx := { X with
  N := Nc
  s₀ := s
  H₀ := H
  env := compEnvC scope (clOf X.env scope.names []) C X.env
  outer := X.stack
  ex := fp
  fn := fun _ => false
  pn := []
  xe := fun _ _ => False }
/-- what the block's scope must be: its own name x, the others the def's at the places caps -/
structure CompScope (X : Cx) (scope : Scope) (x : Str) (ys : List Str) (caps : List Nat) : Prop where
  kind : scope.kind = .function
  nocell : ∀ p ∈ scope.names, p.2 ≠ .cell
  names : ∀ p ∈ scope.names, p.2 = .local → scope.names.lookup p.1 = some .local
  own : scope.names.lookup x = some .local
  free : ∀ p ∈ scope.names, p.2 = .free → X.env.scope.names.lookup p.1 = some .cell
  nd : (x :: ys).Nodup
  cap : ∀ q ∈ ys.zip caps, X.N[q.2]? = some q.1 ∧ X.env.scope.names.lookup q.1 = some .cell ∧ scope.names.lookup q.1 = some .free
  len : ys.length = caps.length
theorem rel_in {env : Env} {y : Str} : ∀ {l : List (Str × NameKind)}, (∀ p ∈ l, p.2 ≠ .cell) →
    ((l.map fun (n, k) => if (k == NameKind.free && env.scope.kind == .function && env.kindOf n == some .cell) then (n, NameKind.cell) else (n, k)).lookup y = some .cell ∨
     (l.map fun (n, k) => if (k == NameKind.free && env.scope.kind == .function && env.kindOf n == some .cell) then (n, NameKind.cell) else (n, k)).lookup y = some .free) → (y, NameKind.free) ∈ l
  | [], _, h => by rcases h with h | h <;> cases h
  | (n, k) :: r, hc, h => by
    have ih := @rel_in env y r (fun p hp => hc p (List.mem_cons_of_mem _ hp))
    rw [List.map_cons] at h
    by_cases q : (k == NameKind.free && env.scope.kind == .function && env.kindOf n == some .cell) = true
    · have hk : k = .free := by
        rw [Bool.and_eq_true, Bool.and_eq_true] at q
        simpa using q.1.1
      subst hk
      by_cases hy : y = n
      · subst hy; exact List.mem_cons_self
      · refine List.mem_cons_of_mem _ (ih ?_)
        have hb : (y == n) = false := by simpa using hy
        simp only [q, if_true, List.lookup_cons, hb] at h
        exact h
    · by_cases hy : y = n
      · subst hy
        have hb : (y == y) = true := by simp
        simp only [q, Bool.false_eq_true, if_false, List.lookup_cons, hb] at h
        rcases h with h | h
        · exact absurd (Option.some.inj h) (hc (y, k) List.mem_cons_self)
        · rw [← Option.some.inj h]; exact List.mem_cons_self
      · refine List.mem_cons_of_mem _ (ih ?_)
        have hb : (y == n) = false := by simpa using hy
        simp only [q, Bool.false_eq_true, if_false, List.lookup_cons, hb] at h
        exact h
theorem rel_cell {env : Env} {y : Str} (hk : env.scope.kind = .function) (hy : env.kindOf y = some .cell) : ∀ {l : List (Str × NameKind)}, l.lookup y = some .free →
    (l.map fun (n, k) => if (k == NameKind.free && env.scope.kind == .function && env.kindOf n == some .cell) then (n, NameKind.cell) else (n, k)).lookup y = some .cell
  | [], h => by cases h
  | (n, k) :: r, h => by
    have ih := @rel_cell env y hk hy r
    rw [List.map_cons]
    rw [List.lookup_cons] at h
    by_cases e : y = n
    · subst e
      have hb : (y == y) = true := by simp
      rw [hb] at h
      have : k = .free := Option.some.inj h
      subst this
      have q : (NameKind.free == NameKind.free && env.scope.kind == .function && env.kindOf y == some .cell) = true := by rw [hk, hy]; rfl
      simp only [q, if_true, List.lookup_cons, hb]
    · have hb : (y == n) = false := by simpa using e
      rw [hb] at h
      by_cases q : (k == NameKind.free && env.scope.kind == .function && env.kindOf n == some .cell) = true
      · simp only [q, if_true, List.lookup_cons, hb]; exact ih h
      · simp only [q, Bool.false_eq_true, if_false, List.lookup_cons, hb]; exact ih h
theorem CompScope.has {X : Cx} {scope : Scope} {x : Str} {ys : List Str} {caps : List Nat} (S : CompScope X scope x ys caps) (ok : X.Ok) : ∀ p ∈ scope.names, p.2 = .free → (X.env.cells.lookup p.1).isSome = true := fun p hp hf => by
  obtain ⟨c, e⟩ := ok.has p.1 (.inl (S.free p hp hf))
  rw [e]; rfl
theorem zip_at {α β : Type} : ∀ {xs : List α} {ys : List β} {j : Nat} {x : α} {y : β}, xs[j]? = some x → ys[j]? = some y → (x, y) ∈ xs.zip ys
  | x :: xs, y :: ys, 0, _, _, h1, h2 => by cases h1; cases h2; exact List.mem_cons_self
  | x :: xs, y :: ys, j + 1, _, _, h1, h2 => List.mem_cons_of_mem _ (zip_at (xs := xs) (ys := ys) (j := j) h1 h2)
  | [], _, _, _, _, h1, _ => by simp at h1
  | _ :: _, [], _, _, _, _, h2 => by simp at h2
/-- the captured names' values -/
def capV (caps : List Nat) (σ : St) : St := caps.map fun i => (σ[i]?).join
/-- the turns of a comprehension that fills the list at D: W by the turn, a measure, the items so far, the heap -/
def CompR (J : It) (te : TE) (cs : St) (Q : VK) (H1 : Hp) (D : Addr) : Prop :=
  ∃ W : Nat → Nat → List V → Hp → Prop, (∃ m, W 0 m [] (upd H1 D (.lst []))) ∧ ∀ i m ys H2, W i m ys H2 → H2 D = some (.lst ys) ∧
    ((J.stop i H2 ∧ Q (.ref D) H2) ∨ (J.go i H2 ∧ ∀ x H3, J.yld i H2 x H3 → te (some x :: cs) H3 fun y H4 => H4 D = some (.lst ys) ∧ ys.length < sizeLine ∧ ∃ m', m' < m ∧ W (i + 1) m' (ys ++ [y]) (upd H4 D (.lst (ys ++ [y])))))
def tComp (wi : TI) (te : TE) (caps : List Nat) : TE := fun σ H Q => wi σ H fun J H1 => ∀ D, H1 D = none → CompR J te (capV caps σ) Q H1 D
section
variable {X : Cx} {elt iter : Expr} {x : Str} {px : Pos} {scope : Scope} {pos : Pos} {wi : TI} {te : TE} {ys : List Str} {caps : List Nat}
/-- the block runs; what stands behind it -/
theorem comp_run (S : CompScope X scope x ys caps) (hc : X.calm = true) (he : ∀ C s H fp, PE (Cx.comp X (x :: ys) scope C s H fp) elt te)
    {pins : List (Addr × Obj)} {σ : St} {H2 : Hp} {s2 : Shared} {it : Addr} {fp : List Addr} {tn : Nat → Heap → Prop} {J : It} {Q : V → Hp → Prop} {PQ : Value → Addr → Result → Shared → Prop} (I : Inv X pins σ H2 s2) (T : Turn X.prog X.w X.K (.Name x px) J fp it tn) (t0 : tn 0 s2.heap) (f2 : ∀ b ∈ fp, FpOk X pins H2 b)
    (h : ∀ D, H2 D = none → CompR J te (capV caps σ) Q H2 D)
    (hPQ : ∀ D C s' H', Inv X pins σ H' s' → Q (.ref D) H' → (∃ m, s'.heap.Ns C m) → H' C = none → X.s₀.heap.objs.size ≤ C → C ≠ X.env.locals → (∀ z c, X.env.cells.lookup z = some c → c ≠ C) → (∀ p ∈ X.pn ++ pins, p.1 ≠ C) → PQ (.ref D) C (.ok .next) s') :
    wpAny (model X.prog X.w) X.A (newList []) (fun acc s3 => wpAny (model X.prog X.w) X.A (newFunctionEnv scope X.env.globals (clOf X.env scope.names []) [] X.env.qual none .none (some X.env)) (fun cenv s4 =>
      codeAny (model X.prog X.w) X.A (.compStart (.ListComp elt [⟨.Name x px, iter, [], 0⟩] scope pos) 0 (.ref it) acc { cenv with scope := relabel scope X.env }) (PQ acc cenv.locals) s4) X.xe s3) X.xe s2 := by
  have hD : H2 s2.heap.objs.size = none := I.fresh
  obtain ⟨W, ⟨m0, w0⟩, step⟩ := h _ hD
  refine wpAny_newObj_type ?_
  have I3 : Inv X pins σ (upd H2 s2.heap.objs.size (.lst [])) { s2 with heap := s2.heap.push { cls := .type "list", data := .seq ([] : List Value).toArray } } := Inv.lnew (t' := s2.toks) I (ys := []) (its := []) .nil (Nat.zero_le _)
  generalize hH3 : upd H2 s2.heap.objs.size (.lst []) = H3 at I3 w0
  generalize hs3 : ({ s2 with heap := s2.heap.push { cls := .type "list", data := .seq ([] : List Value).toArray } } : Shared) = s3 at I3
  have hfp3 : ∀ b ∈ fp, H3 b = none := fun b hb => by
    obtain ⟨o, e, _⟩ := T.obj _ _ t0 b hb
    rw [← hH3, upd_ne (Nat.ne_of_lt (Heap.lt_size e))]
    exact (f2 b hb).1
  have t3 : tn 0 s3.heap := T.keep _ _ _ t0 fun b hb o e => by rw [← hs3]; exact Heap.get?_push_of_some _ e
  refine wpAny_newFunctionEnv S.nocell (fun y hy => nomatch hy) (fun h4 ns4 sb4 => ?_) S.kind
  have hC : H3 s3.heap.objs.size = none := I3.fresh
  have kp : ∀ b o, s3.heap.get? b = some o → h4.get? b = some o := fun b o e =>
    (sb4.2 b (Nat.ne_of_lt (Heap.lt_size e))).trans (Heap.get?_push_of_some _ e)
  generalize hs4 : ({ s3 with heap := h4, toks := s3.toks + ([] : List (Str × Value)).length } : Shared) = s4
  have e4 : s4.heap = h4 := by rw [← hs4]
  have cne : ∀ z c, X.env.cells.lookup z = some c → c ≠ s3.heap.objs.size := fun z c e q => by
    obtain ⟨v, w⟩ := I3.cell z c e
    exact Nat.lt_irrefl _ (q ▸ w.lt)
  have cl_in : ∀ z c, (clOf X.env scope.names []).lookup z = some c → X.env.cells.lookup z = some c := fun z c e => clOf_look scope.names [] (S.has I.ok) (fun q => nomatch q) e
  have Lne : s3.heap.objs.size ≠ X.env.locals := Nat.ne_of_gt I3.lt
  -- the block's invariant at its start
  have ok : (Cx.comp X (x :: ys) scope s3.heap.objs.size s3 H3 fp).Ok := by
    refine ⟨I3.ok.mod, S.kind, I3.ok.glob, I3.ok.blt, Nat.le_refl _, fun z z' c e1 e2 => I3.ok.inj z z' c (cl_in z c e1) (cl_in z' c e2), fun z hz => ?_, fun z c hz => (by cases hz), I3.ok.hd, I3.ok.frames, .inl rfl, fun b hb => ⟨?_, fun z c e => ?_⟩, I3.bs, ?_, fun b o e hb => ?_, fun b hb hf => ?_, I3.stack, I3.stkFree⟩
    · have := clOf_has (env := X.env) scope.names [] (.inl (rel_in S.nocell hz))
      exact Option.isSome_iff_exists.mp this
    · obtain ⟨o, e, _⟩ := T.obj _ _ t3 b hb
      exact Nat.ne_of_lt (Heap.lt_size e)
    · exact (f2 b hb).2.2.2.2.1 z c (cl_in z c e)
    · exact Nat.le_trans I3.ok.bsz I3.sz
    · obtain ⟨_, _, _, hy, _⟩ := f2 b hb
      have e0 := (I3.ok.bs b o e).1
      rcases hy with hy | hy
      · exact I3.ok.noex b o e hy
      · exact absurd (Nat.lt_of_lt_of_le (Heap.lt_size e0) hy) (Nat.lt_irrefl _)
    · obtain ⟨_, hl, hfs, _⟩ := f2 b hb
      exact (List.mem_cons.mp (I3.stkSub b hf)).elim hl hfs
  have hlen : ((none : Option V) :: capV caps σ).length = (x :: ys).length := by
    rw [List.length_cons, List.length_cons, S.len]
    unfold capV
    rw [List.length_map]
  have I4 : Inv X pins σ H3 s4 := by
    rw [← hs4]
    exact I3.kept kp
  have Ic : Inv (Cx.comp X (x :: ys) scope s3.heap.objs.size s3 H3 fp) [] ((none : Option V) :: capV caps σ) H3 s4 := by
    refine ⟨ok, by rw [← hs4]; rfl, I4.bare, Un.kept (by rw [e4]; exact kp), ⟨_, by rw [e4]; exact ns4, fun i z v e1 e2 e3 => ?_⟩, fun z c e => I4.cell z c (cl_in z c e), hC, fun z c e => I4.freeC z c (cl_in z c e), (fun p hp => nomatch hp), I4.hok, hlen⟩
    cases i with
    | zero => cases e2
    | succ j =>
      have e1 : ys[j]? = some z := e1
      have e2 : (capV caps σ)[j]? = some (some v) := e2
      unfold capV at e2
      rw [List.getElem?_map] at e2
      cases hi : caps[j]? with
      | none => rw [hi] at e2; cases e2
      | some i =>
        rw [hi] at e2
        have e2 : (σ[i]?).join = some v := Option.some.inj e2
        have e2 : σ[i]? = some (some v) := by
          cases q : σ[i]? with
          | none => rw [q] at e2; cases e2
          | some o => rw [q] at e2; exact congrArg some e2
        obtain ⟨c1, c2, c3⟩ := S.cap (z, i) (zip_at e1 hi)
        have c4 := rel_cell (env := X.env) I.ok.kind c2 c3
        have c3 : (z, NameKind.free) ∈ scope.names := PySem.mem_of_lookup c3
        obtain ⟨m, hn, hl⟩ := I4.loc
        obtain ⟨u, r, lk⟩ := hl i z v c1 e2 (.inr (.inl c2))
        refine ⟨u, r, .inr ⟨.inl c4, ?_⟩⟩
        rcases lk with ⟨k, _⟩ | ⟨_, c, hc', z'⟩
        · exact absurd ((show X.env.scope.names.lookup z = some .local from k).symm.trans c2) (by decide)
        · obtain ⟨d, hd⟩ := Option.isSome_iff_exists.mp (clOf_has (env := X.env) scope.names [] (.inl c3))
          have := cl_in z d hd
          rw [hc'] at this
          cases this
          exact ⟨c, hd, z'⟩
  -- the loop
  have loop : codeAny (model X.prog X.w) X.A (.compLoop (.ListComp elt [⟨.Name x px, iter, [], 0⟩] scope pos) 0 (.ref it) (.ref s2.heap.objs.size) (compEnvC scope (clOf X.env scope.names []) s3.heap.objs.size X.env)) (PQ (.ref s2.heap.objs.size) s3.heap.objs.size) s4 := by
    have fpC : ∀ {H' : Hp}, (∀ b ∈ fp, H' b = none) → ∀ b ∈ fp, FpOk (Cx.comp X (x :: ys) scope s3.heap.objs.size s3 H3 fp) [] H' b := fun hn b hb =>
      ⟨hn b hb, (ok.exf b hb).1, ok.exfs b hb, .inl hb, (ok.exf b hb).2, (fun p hp => nomatch hp)⟩
    refine codeAny_loop rfl (fun n s' => ∃ i zs v H', Inv (Cx.comp X (x :: ys) scope s3.heap.objs.size s3 H3 fp) [] (v :: capV caps σ) H' s' ∧ tn i s'.heap ∧ (∀ b ∈ fp, H' b = none) ∧ W i n zs H') (fun n s5 z => ?_) m0 ⟨0, [], none, H3, Ic, T.keep _ _ _ t3 (fun b hb o e => by rw [e4]; exact kp b o e), hfp3, w0⟩
    obtain ⟨i, zs, v, H5, I5, t5, fr5, w5⟩ := z
    show wpAny _ _ ((compTurn _ 0 (.ref it) _ _).onRaise _) _ _ s5
    refine wpAny_noted ?_
    rw [compTurn_list1]
    refine wpAny_bind (wpAny_standAt (wpAny_bind ?_))
    obtain ⟨hacc, stop | go⟩ := step i n zs H5 w5
    · obtain ⟨stop, q⟩ := stop
      refine thn (T.done (Cx.comp X (x :: ys) scope s3.heap.objs.size s3 H3 fp) rfl rfl rfl hc i [] s5 _ H5 _ I5 (fpC fr5) t5 stop) fun r s6 ⟨hr, I6⟩ => ?_
      subst hr
      refine wpAny_pure (hPQ _ _ s6 H5 ?_ q ?_ I6.free ?_ Lne cne fun p hp z => ?_)
      · refine I3.call' I6.os I6.base I6.hok I6.bare fun b hb => ?_
        obtain ⟨_, g1, _, g3, g4, g5⟩ := f2 b hb
        exact ⟨g3, g1, g4, g5⟩
      · obtain ⟨m, hn, _⟩ := I6.loc
        exact ⟨m, hn⟩
      · exact I3.sz
      · exact Nat.ne_of_lt (Heap.lt_size (I3.pin p hp).1) z
    · obtain ⟨go, turn⟩ := go
      refine thn (T.item (Cx.comp X (x :: ys) scope s3.heap.objs.size s3 H3 fp) rfl rfl rfl hc i [] s5 _ H5 _ I5 (fpC fr5) t5 go) fun r s6 ⟨u, hr, h6⟩ => ?_
      subst hr
      refine wpAny_bind (thn h6 fun _ s7 ⟨y, H7, I7, r7, y7, t7, fr7⟩ => ?_)
      have I7' := I7.pinned (fpC fr7) (T.obj _ _ t7)
      have hg : PG (Cx.comp X (x :: ys) scope s3.heap.objs.size s3 H3 fp) (.Name x px) (gName 0) := pg_name S.nd rfl (.inl (lookup_relabel_local S.own)) (.inr (lookup_relabel_local S.own))
      refine wpAny_bind (wpAny_mono (hg _ s7 _ H7 y u (fun σ' H' => σ' = some y :: capV caps σ ∧ H' = H7) I7' r7 ⟨rfl, rfl⟩) (fun _ s8 z8 => ?_) fun _ _ f => f.elim)
      obtain ⟨σ8, H8, I8, e8, e8'⟩ := z8
      subst e8 e8'
      refine wpAny_bind (wpAny_bind (wpAny_mono (he _ _ _ _ _ s8 _ _ _ I8 (turn y _ y7)) (fun u9 s9 z9 => ?_) fun _ _ f => f.elim))
      obtain ⟨v9, H9, I9, r9, a9, l9, m9, hm9, w9⟩ := z9
      refine wpAny_bind (wpAny_mono (mt_append (X := Cx.comp X (x :: ys) scope s3.heap.objs.size s3 H3 fp) _ s9 _ H9 (.ref s2.heap.objs.size) [v9] _ [u9] (fun _ H' => H' = upd H9 s2.heap.objs.size (.lst (zs ++ [v9]))) I9 rfl (.cons r9 .nil) ⟨_, zs, v9, rfl, rfl, a9, l9, rfl⟩) (fun _ s10 z10 => ?_) fun _ _ f => f.elim)
      obtain ⟨_, H10, I10, _, e10⟩ := z10
      subst e10
      refine wpAny_pure (wpAny_pure ⟨rfl, m9, hm9, i + 1, zs ++ [v9], some y, _, I10.unpinned, T.keep _ _ _ t7 fun b hb o e => (I10.pin (b, o) (List.mem_append_right _ (List.mem_append_right _ (mem_pinsAt hb e)))).1, fun b hb => ?_, w9⟩)
      obtain ⟨o, e, _⟩ := T.obj _ _ t7 b hb
      exact (I10.pin (b, o) (List.mem_append_right _ (List.mem_append_right _ (mem_pinsAt hb e)))).2.1
  exact codeAny_compStart_list loop (T.self X.A 0 _ _ _ (T.keep _ _ _ t3 (fun b hb o e => by rw [e4]; exact kp b o e)) loop)
theorem pe_comp (S : CompScope X scope x ys caps) (hc : X.calm = true) (hi : PI X (.Name x px) iter wi) (he : ∀ C s H fp, PE (Cx.comp X (x :: ys) scope C s H fp) elt te) (hs : ∀ x, foldedSetIterable iter X.env x = pure x := by intro _; rfl) :
    PE X (.ListComp elt [⟨.Name x px, iter, [], 0⟩] scope pos) (tComp wi te caps) := by
  intro pins s σ H Q I h
  rw [eval_ListComp]
  refine wpAny_comprehension_free (use := none) rfl hs (closure_is (S.has I.ok)) S.kind S.names (thn (hi pins s σ H _ I h) fun v s1 h1 => thn h1 fun itv s2 h2 => ?_)
  obtain ⟨it, fp, tn, J, H2, rfl, I2, T, t0, f2, q⟩ := h2
  refine comp_run S hc he (Q := Q) I2 T t0 f2 q fun D C s' H' I' q' n' hC hz hL hcc hp => ?_
  obtain ⟨m, n'⟩ := n'
  exact ⟨m, n', fun h' sb => ⟨.ref D, H', I'.turned (it := C) (t' := s'.toks) (fun b o hb e => (sb.2 b hb).trans e) hC hL (.inr hz) hcc hp, rfl, q'⟩⟩
/-- name = [..] -/
def tSetComp (i : Nat) (wi : TI) (te : TE) (caps : List Nat) : TS := fun D σ H => tComp wi te caps σ H fun v H1 => D.nx (σ.set i (some v)) H1
theorem ps_setcomp {i : Nat} {y : Str} {py spos : Pos} (hN : X.N.Nodup) (hiy : X.N[i]? = some y) (hy : Loc X.env.scope y) (S : CompScope X scope x ys caps) (hc : X.calm = true) (hi : PI X (.Name x px) iter wi) (he : ∀ C s H fp, PE (Cx.comp X (x :: ys) scope C s H fp) elt te)
    (hsw : swapsWith (.ListComp elt [⟨.Name x px, iter, [], 0⟩] scope pos) (some (.Name y py)) spos.line X.env = pure true := by rfl) (hs : ∀ x, foldedSetIterable iter X.env x = pure x := by intro _; rfl)
    (hf : X.fn y = true ∨ X.env.scope.names.lookup y = some .local := by first | exact .inl rfl | exact .inr rfl | assumption) :
    PS X (.Assign [.Name y py] (.ListComp elt [⟨.Name x px, iter, [], 0⟩] scope pos) spos) (tSetComp i wi te caps) := by
  intro pins s σ H D I h
  rw [exec_Assign_Name_used _ _ _ _ hsw]
  refine wpAny_bind (wpAny_standAt (wpAny_bind ?_))
  show wpAny _ _ (do let _ ← comprehension (.ListComp elt [⟨.Name x px, iter, [], 0⟩] scope pos) scope X.env _ (newList []) false (eval iter X.env) (some (assign (.Name y py) X.env))) _ _ s
  refine wpAny_bind (wpAny_mono (wpAny_comprehension_free (use := some (assign (.Name y py) X.env)) (Q := fun _ s' => SP X pins D .next s') rfl hs (closure_is (S.has I.ok)) S.kind S.names (thn (hi pins s σ H _ I h) fun v s1 h1 => thn h1 fun itv s2 h2 => ?_)) (fun _ s' hq => wpAny_pure (wpAny_pure hq)) fun _ _ e => e)
  obtain ⟨it, fp, tn, J, H2, rfl, I2, T, t0, f2, q⟩ := h2
  refine comp_run S hc he (Q := fun v H1 => D.nx (σ.set i (some v)) H1) I2 T t0 f2 q fun Dl C s' H' I' q' n' hC hz hL hcc hp => ?_
  obtain ⟨m, n'⟩ := n'
  show wpAny _ _ (assign (.Name y py) X.env (.ref Dl)) _ _ s'
  refine wpAny_assign_Name (store_ok2 I' hN hiy hy (v := .ref Dl) rfl (fun s3 I3 sb3 => ?_) hf)
  obtain ⟨a, sb3, ha⟩ := sb3
  have hCa : C ≠ a := by
    rcases ha with rfl | ha
    · exact hL
    · exact (hcc _ _ ha).symm
  exact ⟨m, n'.sameBut sb3 hCa, fun h' sb => ⟨_, H', I3.turned (it := C) (t' := s3.toks) (fun b o hb e => (sb.2 b hb).trans e) hC hL (.inr hz) hcc hp, q'⟩⟩
end
end L2
namespace L2
open PySem PySem.Spec PyProof.Rows
end L2
namespace L2
open PySem PySem.Spec PyProof.Rows
section
variable {P : Program} {w : World} {K : PySem.W.Frag} {mg : Str → Option Value} {base : Heap}
/-- a def whose exceptions may leave it -/
theorem Fun.okX {x qual : Str} {st : Stmt} {f : Addr} {fd : FuncData} {N ps : List Str} {k : Nat} {sp : Sp} (F : Fun K x qual st f fd) (S : FnScope N ps (defScope st)) (len : ∀ vs H Q E, sp vs H Q E → vs.length = ps.length)
    (hbody : ∀ (cdv : Value) (A : Around) (outer : List Env) (s : Shared) (H : Hp) (vs : List V) (Q : VK) (E : XK), Room k (A.deeper (envOfC qual (defScope st) s.heap.objs.size f cdv)) → sp vs H Q E →
      ∃ t, PSs (cxOf (CX1 P w) P w K mg base N qual (defScope st) f cdv A outer s H E) (defBody st) t ∧ t { nx := fun _ H' => Q .non H', rt := Q } (start N vs) H) : FnOk P w K mg base (CX1 P w) (k + 1) f fd ps sp := by
  obtain ⟨oc, od, kV, doc, pm, an, cdv, ct, osl, rfl, lk, hcd⟩ := F.ex
  exact fn_of lk hcd S len fun A outer s H vs Q E hr hsp => hbody cdv A outer s H vs Q E hr hsp
end
/-- no exception comes -/
theorem passesN {X : Cx} {P : Program} {w : World} : PassesR (CX1 P w) X (fun _ => E0) := by
  intro pins σ H s e s' _ hx
  obtain ⟨_, _, _, _, _, _, _, _, hE⟩ := hx
  exact hE.elim
/-! ### tests -/
/-! ### great ints -/
theorem log2_lt {n : Nat} {k : Nat} (h : n < 2 ^ k) (hk : 0 < k) : n.log2 < k := by
  by_cases h0 : n = 0
  · rw [h0, show Nat.log2 0 = 0 from rfl]; exact hk
  · exact (Nat.log2_lt h0).mpr h
def Big (i : Int) : Prop := i.natAbs < 2 ^ 8000
theorem mulOk_big {i j : Int} (hi : Big i) (hj : Big j) : IntMulOk i j := by
  have b : ∀ {i : Int}, Big i → Builtin.Int.intBits i ≤ 8000 := fun {i} h => by
    unfold Builtin.Int.intBits
    split
    · exact Nat.zero_le _
    · have := log2_lt (k := 8000) h (by decide)
      omega
  have b1 := b hi
  have b2 := b hj
  have h3 : Builtin.Int.intTooBig (Builtin.Int.intBits i + Builtin.Int.intBits j) = false := by
    unfold Builtin.Int.intTooBig
    refine decide_eq_false ?_
    have : (bitsLine : Int) = 134217728 := by decide
    omega
  unfold IntMulOk
  rw [h3, Bool.and_false]
  exact Bool.false_ne_true
section
variable {X : Cx}
theorem op_mulB : OpR X (binaryOp .Mult) (rI (fun i j => Big i ∧ Big j) fun i j => .int (i * j)) := opI fun _ _ _ _ _ _ _ hc q => mul_int q (mulOk_big hc.1 hc.2)
theorem op_fdivB : OpR X (binaryOp .FloorDiv) (rI (fun _ j => j ≠ 0 ∧ Big j) fun i j => .int (i.fdiv j)) := opI fun _ _ _ _ _ _ _ hc q =>
  floordiv_int hc.1 q (.inl (PyProof.noPylong_of_log2 (Nat.lt_of_lt_of_le (log2_lt (k := 8000) hc.2 (by decide)) (by decide))))
end

/-! ### isinstance -/
def clsV : V → Option Value
  | .ty T => some (.type T)
  | .ref C => some (.ref C)
  | _ => none
theorem clsV_is {c : V} {u t : Value} (r : RelV c u) (h : clsV c = some t) : u = t := by
  cases c with
  | ty T => cases r; exact Option.some.inj h
  | ref C => cases r; exact Option.some.inj h
  | _ => cases h
section
variable {X : Cx}
theorem call_isinst : CallR X (.builtin "isinstance") (fun xs H Q => ∃ x c t t' b, xs = [x, c] ∧ TyOf X.K H x t ∧ clsV c = some t' ∧ PySem.W.kitOne X.K t t' = some b ∧ Q (.bl b) H) := by
  intro pins s σ H xs us Q I r h
  obtain ⟨x, c, t, t', b, rfl, ty, hc, hk, q⟩ := h
  obtain ⟨u, u', rfl, r1, r2⟩ := vals2 r
  cases clsV_is r2 hc
  exact isinst_ok I r1 ty hk fun tk => ⟨.bl b, H, I.tok tk, rfl, q⟩
end

/-! ### == of tuples of flat values -/
def eqVs : List V → List V → Bool
  | [], [] => true
  | x :: xs, y :: ys => eqV x y && eqVs xs ys
  | _, _ => false
theorem eqVs_range : ∀ (xs ys : List V) (e : Nat → Bool), (∀ j x y, xs[j]? = some x → ys[j]? = some y → e j = eqV x y) → ((List.range (min xs.length ys.length)).all e && xs.length == ys.length) = eqVs xs ys
  | [], [], e, _ => rfl
  | [], _ :: _, e, _ => by simp [eqVs]
  | _ :: _, [], e, _ => by simp [eqVs]
  | x :: xs, y :: ys, e, h => by
    have ih := eqVs_range xs ys (fun j => e (j + 1)) fun j x y h1 h2 => h (j + 1) x y h1 h2
    have h0 : e 0 = eqV x y := h 0 x y rfl rfl
    show _ = (eqV x y && eqVs xs ys)
    rw [← ih, ← h0]
    have e1 : min (x :: xs).length (y :: ys).length = min xs.length ys.length + 1 := by simp only [List.length_cons]; omega
    rw [e1, List.range_succ_eq_map, List.all_cons, List.all_map]
    have e2 : ((x :: xs).length == (y :: ys).length) = (xs.length == ys.length) := by simp only [List.length_cons]; rw [Bool.eq_iff_iff]; simp
    rw [e2, Bool.and_assoc]
    rfl
/-- the answer that two lists of flat items give -/
def rEqT (K : PySem.W.Frag) : R2 := fun x y H Q => ∃ a b xs ys, x = .ref a ∧ y = .ref b ∧ SqT K H a xs ∧ SqT K H b ys ∧ xs.all flatV = true ∧ ys.all flatV = true ∧ Q (.bl (eqVs xs ys)) H
/-- .. != -/
def rNeT (K : PySem.W.Frag) : R2 := fun x y H Q => ∃ a b xs ys, x = .ref a ∧ y = .ref b ∧ SqT K H a xs ∧ SqT K H b ys ∧ xs.all flatV = true ∧ ys.all flatV = true ∧ Q (.bl (!eqVs xs ys)) H
theorem flat_at : ∀ {xs : List V} {j : Nat} {x : V}, xs.all flatV = true → xs[j]? = some x → flatV x = true
  | _ :: _, 0, _, h, e => by
    rw [List.all_cons, Bool.and_eq_true] at h
    cases e
    exact h.1
  | _ :: _, j + 1, _, h, e => by
    rw [List.all_cons, Bool.and_eq_true] at h
    exact flat_at h.2 e
section
variable {X : Cx}
theorem op_neT (hu : X.A.units < cLine) : OpR X (compareOp .NotEq) (rNeT X.K) := by
  intro pins s σ H x y v u Q I rx ry h
  obtain ⟨a, b, xs, ys, rfl, rfl, h1, h2, f1, f2, q⟩ := h
  cases rx
  cases ry
  obtain ⟨i1, v1, t1, _⟩ := I.tuple h1
  obtain ⟨i2, v2, t2, _⟩ := I.tuple h2
  have l1 := v1.length
  have l2 := v2.length
  refine SeqAt.RcNeAt.tuples (e := fun j => match xs[j]?, ys[j]? with | some x, some y => eqV x y | _, _ => true) (show s.heap.IsTuple a i1.toArray from t1) (show s.heap.IsTuple b i2.toArray from t2) hu (fun j h1 h2 => ?_) _ _ _ _ ?_
  · have b1 : j < i1.length := by simpa using h1
    have b2 : j < i2.length := by simpa using h2
    have e1 : xs[j]? = some (xs[j]'(by omega)) := List.getElem?_eq_getElem _
    have e2 : ys[j]? = some (ys[j]'(by omega)) := List.getElem?_eq_getElem _
    obtain ⟨u1, g1, r1⟩ := v1.get e1
    obtain ⟨u2, g2, r2⟩ := v2.get e2
    rw [List.getElem?_eq_getElem b1] at g1
    rw [List.getElem?_eq_getElem b2] at g2
    have w1 : i1.toArray[j] = u1 := by simpa using Option.some.inj g1
    have w2 : i2.toArray[j] = u2 := by simpa using Option.some.inj g2
    rw [w1, w2]
    simp only [e1, e2]
    exact eqAt_V r1 r2 (flat_at f1 e1) (flat_at f2 e2)
  · rw [List.size_toArray, List.size_toArray, ← l1, ← l2, eqVs_range xs ys _ (fun j x y h1 h2 => by simp only [h1, h2])]
    exact ⟨.bl (!eqVs xs ys), H, I, rfl, q⟩
theorem op_eqT (hu : X.A.units < cLine) : OpR X (compareOp .Eq) (rEqT X.K) := by
  intro pins s σ H x y v u Q I rx ry h
  obtain ⟨a, b, xs, ys, rfl, rfl, h1, h2, f1, f2, q⟩ := h
  cases rx
  cases ry
  obtain ⟨i1, v1, t1, _⟩ := I.tuple h1
  obtain ⟨i2, v2, t2, _⟩ := I.tuple h2
  have l1 := v1.length
  have l2 := v2.length
  refine SeqAt.eq_tupleAt (e := fun j => match xs[j]?, ys[j]? with | some x, some y => eqV x y | _, _ => true) (show s.heap.IsTuple a i1.toArray from t1) (show s.heap.IsTuple b i2.toArray from t2) hu (fun j h1 h2 => ?_) ?_
  · have b1 : j < i1.length := by simpa using h1
    have b2 : j < i2.length := by simpa using h2
    have e1 : xs[j]? = some (xs[j]'(by omega)) := List.getElem?_eq_getElem _
    have e2 : ys[j]? = some (ys[j]'(by omega)) := List.getElem?_eq_getElem _
    obtain ⟨u1, g1, r1⟩ := v1.get e1
    obtain ⟨u2, g2, r2⟩ := v2.get e2
    rw [List.getElem?_eq_getElem b1] at g1
    rw [List.getElem?_eq_getElem b2] at g2
    have w1 : i1.toArray[j] = u1 := by simpa using Option.some.inj g1
    have w2 : i2.toArray[j] = u2 := by simpa using Option.some.inj g2
    rw [w1, w2]
    simp only [e1, e2]
    exact eqAt_V r1 r2 (flat_at f1 e1) (flat_at f2 e2)
  · rw [List.size_toArray, List.size_toArray, ← l1, ← l2, eqVs_range xs ys _ (fun j x y h1 h2 => by simp only [h1, h2])]
    exact ⟨.bl (eqVs xs ys), H, I, rfl, q⟩
end
end L2
set_option maxHeartbeats 4000000
namespace L2
open PySem PySem.Spec PyProof.Rows
/-! ### isinstance of an exception of an own class -/
section
variable {prog : Program} {w : World} {A : Around} {E : Value → Shared → Prop} {s : Shared} {K : PySem.W.Frag} {x D : Addr} {ox : Obj} {od : Option Obj}
end
/-- the class at C, for isinstance -/
structure ExcTy (K : PySem.W.Frag) (C : Addr) : Prop where
  cls : PySem.W.isClsIn K C = true
  ga : PySem.W.findIn K (.ref C) "__getattribute__" = some (some (.builtin "BaseException.__getattribute__"))
  gt : PySem.W.findIn K (.ref C) "__getattr__" = some none
  cl : PySem.W.findIn K (.ref C) "__class__" = some (some (.builtin "object.__class__"))
  ob : PySem.W.mroIn K C (.type "object") = some true
  be : PySem.W.subIn K (.ref C) (.type "BaseException") = some true
/-- the exception at x stands in the suite's pins: of class C, with the dict dx -/
def ExcAt (X : Cx) (x C : Addr) (dx : Option Addr) : Prop := ∃ (o : Obj) (vs : Array Value), (x, ({ o with data := .fields vs } : Obj)) ∈ X.pn ∧ vs[2]? = some .none ∧ o.cls = .ref C ∧ o.dict = dx
def rIsE (K : PySem.W.Frag) (x C : Addr) (dx : Option Addr) : List V → Hp → VK → Prop := fun xs H Q => ∃ t t' b, xs = [.ref x, t] ∧ (∀ d, dx = some d → ∃ o, H d = some o) ∧ clsV t = some t' ∧ PySem.W.kitOne K (.ref C) t' = some b ∧ Q (.bl b) H
section
variable {X : Cx}
end
/-! ### a name goes -/
section
variable {X : Cx} {pins : List (Addr × Obj)} {σ : St} {H : Hp} {s : Shared} {M : Model} {A : Around} {E : Value → Shared → Prop} {Q : Unit → Shared → Prop} {i : Nat} {n : Str}
end
/-! ### try: body, except D as n: suite -/
/-- what is wanted behind the suite: the name is gone -/
def goesD (i : Nat) (D : Ends) : Ends := ⟨fun σ H => D.nx (σ.set i none) H, D.rt, fun σ H => D.bk (σ.set i none) H, fun σ H => D.ct (σ.set i none) H⟩
def tTryE (K : PySem.W.Frag) (D : Addr) (i : Nat) (CC : Addr → Option Addr → Prop) (tb : (St → XK) → TS) (ts : Addr → Addr → Option Addr → TS) : TS := fun Dn σ H => ∃ R : St → XK, tb R Dn σ H ∧
  ∀ σ' cls od H', R σ' cls od H' → ∃ C, cls = .ref C ∧ CC C od ∧ PySem.W.subIn K (.ref C) (.ref D) = some true ∧ ∀ x, H' x = none → ts x C od (goesD i Dn) (σ'.set i (some (.ref x))) H'
section
variable {X : Cx} {body : List Stmt} {D : Addr} {dn n : Str} {i : Nat} {b₀ : Stmt} {suite : List Stmt} {pos hpos np : Pos} {tb : (St → XK) → TS} {ts : Addr → Addr → Option Addr → TS} {bmB' : List Value} {newId' : String}
end
/-! ### any, all of a list of truths -/
section
variable {prog : Program} {w : World} {A : Around} {E : Value → Shared → Prop} {s : Shared}
end

def rAny (K : PySem.W.Frag) : List V → Hp → VK → Prop := fun xs H Q => ∃ (p : Addr) (bs : List Bool), xs = [.ref p] ∧ SqL K H p (bs.map V.bl) ∧ Q (.bl (bs.any id)) H
section
variable {X : Cx}
end
/-! ### a cut behind a statement -/
def tCut (t : TS) : TS := fun D σ H => ∃ J : St → Hp → Prop, t { D with nx := J } σ H ∧ ∀ σ' H', J σ' H' → D.nx σ' H'
end L2

set_option Elab.async false
set_option linter.all false
set_option maxRecDepth 100000
set_option maxHeartbeats 4000000
-- CHANGE: your row's module here, as the last of these rows
set_option Elab.async false
set_option linter.all false
set_option maxRecDepth 100000
/-! THE HAND LAYER, for ints, bools, texts, own classes, DICTS (int and text keys), calls, loops. Paste it whole ahead of your own text; what your proof does not reach may be deleted. -/
namespace L2
open PySem PySem.Spec PyProof.Rows

end L2

namespace L2
open PySem PySem.Spec PyProof.Rows

section
variable (P : Program) (w : World)
end

section
variable {P : Program} {w : World} {H H' : Hp} {h h' : Heap} {a : Addr} {o : HO}
end

section
variable {P : Program} {w : World} {H : Hp} {h h' : Heap} {x e : Addr} {o' : HO}
end

/-! ### kept unless tracked; of the frames at fs (the callers') the slots may change (an exception that passes writes there); of the records at ex (iterators) nothing is said -/
section
variable {fs fs' ex ex' : List Addr} {H H1 H2 : Hp} {h h1 h2 h' : Heap} {a x e : Addr} {o : HO}
end

/-! ### the heap without what is tracked -/
/-! ### OpenK's ledger, filled with every new object but one -/
end L2

namespace L2
open PySem PySem.Spec PyProof.Rows

section
variable {X : Cx} {pins : List (Addr × Obj)} {σ : List (Option V)} {H H' : Hp} {s : Shared} {h' : Heap}

end

/-! ### the judgements -/
end L2

namespace L2
open PySem PySem.Spec PyProof.Rows
section
variable {X : Cx}

/-! ### names and constants -/
/-! ### arithmetic -/
variable {a b : Expr} {ta tb : TE} {pos : Pos}
/-! ### comparisons -/
/-! ### and, or, not -/
variable {tA tB' : TT} {rest : List Expr}
end
end L2

namespace L2
open PySem PySem.Spec PyProof.Rows

/-! ### a list, a tuple that is read: tracked, frozen, or an object of the module -/
section
variable {X : Cx} {pins : List (Addr × Obj)} {σ : St} {H : Hp} {s : Shared} {a : Addr} {xs ys : List V}
end

/-! ### another wish about exceptions -/
section
variable {X : Cx} {pins : List (Addr × Obj)} {σ : St} {H : Hp} {s : Shared} {E : Value → Shared → Prop}
end

/-! ### blocks and small statements -/
section
variable {X : Cx} {st : Stmt} {rest : List Stmt} {t u : TS} {e : Expr} {te : TE} {pos : Pos}
end

/-! ### targets -/
section
variable {X : Cx} {pos : Pos}
end

/-! ### while -/
section
variable {X : Cx} {pos : Pos}
end

/-! ### what a loop or a comprehension walks -/
end L2

namespace L2
open PySem PySem.Spec PyProof.Rows
section
variable {X : Cx} {tg : Expr}
/-! ### for -/
end

/-! ### the forms one uses -/
end L2

namespace L2
open PySem PySem.Spec PyProof.Rows

section
variable {X : Cx} {a b c : Expr} {ta tb tc : TE} {pos : Pos}

/-! ### ints -/
/-! ### bools among ints: n += (a < b) -/
end

/-! ### comparisons -/
section
variable {X : Cx} {a b c : Expr} {ta tb tc : TE} {pos : Pos}
/-! ### truth -/
/-! ### strs and bytes -/
/-! ### scalar builtins, by CallR -/
end
end L2

namespace L2
open PySem PySem.Spec PyProof.Rows

/-! ### an instance, its attributes a map -/
section
variable {prog : Program} {w : World} {A : Around} {E : Value → Shared → Prop} {s : Shared} {K : PySem.W.Frag} {x dx C f : Addr} {mA : Str → Option Value} {name : Str} {v : Value}

end

/-! ### the attributes as a list of pairs -/
section
variable {P : Program} {w : World} {H H' : Hp} {h h' : Heap} {a C dx : Addr} {fs fs' : List (Str × V)}
end

/-! ### what of the text a class must have -/
section
variable {X : Cx} {pins : List (Addr × Obj)} {σ : St} {H : Hp} {s : Shared} {a C dx : Addr} {fs : List (Str × V)} {f : Str} {v : V} {A : Around} {E : Value → Shared → Prop}

end

/-! ### readings and rules -/
section
variable {X : Cx} {o e value : Expr} {f : Str} {pos pos' tpos : Pos} {ta tv : TE}
end

/-! ### isinstance -/
section
variable {X : Cx} {pins : List (Addr × Obj)} {σ : St} {H : Hp} {s : Shared} {A : Around} {E : Value → Shared → Prop} {Q : Value → Shared → Prop} {c : Value} {b : Bool}
end
end L2

namespace L2
open PySem PySem.Spec PyProof.Rows

/-! ### room -/
/-! ### argument lists and displays -/
section
variable {X : Cx} {e : Expr} {es : List Expr} {te : TE} {t : TA} {pos : Pos}
end

/-! ### what a def promises -/
section
variable {X : Cx} {pins : List (Addr × Obj)} {σ : St} {H : Hp} {s s' : Shared}
end

/-! ### calls -/
section
variable {X : Cx} {CX : CXT} {k : Nat} {f C : Addr} {fd : FuncData} {ps : List Str} {sp : Sp} {dvs : List V} {ds : List Value} {E : XK} {x m : Str} {p pos apos : Pos} {e o : Expr} {es : List Expr} {ta : TE} {t : TA}

end

/-! ### keywords -/
section
variable {X : Cx} {CX : CXT} {k : Nat} {f C : Addr} {fd : FuncData} {ps ks : List Str} {sp : Sp} {E : XK} {x m : Str} {p pos apos kpos : Pos} {e o : Expr} {es : List Expr} {kws : List Keyword} {te ta : TE} {t tk : TA} {nm : Option Str}
variable {g : List Value → List Value → List Value} {gV : List V → List V → List V}
end

/-! ### a def's body keeps its promise -/
end L2

namespace L2
open PySem PySem.Spec PyProof.Rows
section
variable {X : Cx} {x : Str} {p pos : Pos} {e : Expr} {es : List Expr} {t : TA} {id T : String} {r : List V → Hp → VK → Prop}

end
end L2

namespace L2
open PySem PySem.Spec PyProof.Rows

/-! ### lists of pairs as tables -/
section
variable {κ : Type} [DecidableEq κ]
def valV (kvs : List (κ × V)) (k : κ) : Option V := (kvs.find? fun kv => decide (kv.1 = k)).map (·.2)
/-- in its place, or at the end -/
def putK (kvs : List (κ × V)) (k : κ) (v : V) : List (κ × V) :=
  if (kvs.any fun kv => decide (kv.1 = k)) = true then kvs.map (fun kv => if kv.1 = k then (kv.1, v) else kv) else kvs ++ [(k, v)]
def dropK (kvs : List (κ × V)) (k : κ) : List (κ × V) := kvs.filter fun kv => decide (kv.1 ≠ k)

end


/-! ### a tracked dict, its keys ints and texts or tuples of these -/
/-- raw entries of a dict with tuple keys -/
abbrev KT (H : Hp) : List (List Key × V) → List (List Key × Addr × Value) → Prop := Paired fun p q => p.1 = q.1 ∧ H q.2.1 = some (.tup (p.1.map kV)) ∧ RelV p.2 q.2.2
section
variable {P : Program} {w : World} {H : Hp} {h : Heap} {a : Addr}
end

/-- what the dict at a holds at the key y -/
def DGet (H : Hp) (a : Addr) (y : V) (r : Option V) : Prop :=
  (∃ kvs k, Rd H a (.dK kvs) ∧ y = kV k ∧ r = valV kvs k) ∨ ∃ kvs k b, Rd H a (.dT kvs) ∧ y = .ref b ∧ H b = some (.tup (k.map kV)) ∧ r = valV kvs k
/-- the heap behind a[y] = v -/
def DPut (H : Hp) (a : Addr) (y v : V) (H' : Hp) : Prop :=
  (∃ kvs k, H a = some (.dK kvs) ∧ y = kV k ∧ kvs.length < sizeLine ∧ H' = upd H a (.dK (putK kvs k v))) ∨
  ∃ kvs k b, H a = some (.dT kvs) ∧ y = .ref b ∧ H b = some (.tup (k.map kV)) ∧ kvs.length < sizeLine ∧ H' = upd H a (.dT (putK kvs k v))
section
variable {X : Cx} {pins : List (Addr × Obj)} {σ : St} {H : Hp} {s : Shared} {a : Addr} {y v : V} {u r : Value} {o : Option V} {A : Around} {E : Value → Shared → Prop}

end

section
variable {X : Cx} {pins : List (Addr × Obj)} {σ : St} {H : Hp} {s : Shared} {a : Addr} {kvs : List (Key × V)} {k : Key} {u : Value} {A : Around} {E : Value → Shared → Prop}
end


/-! ### readings and rules -/
/-- the element of a subscription, not a slice -/
def NoSl (i : Expr) : Prop := ∀ ov iv, subscripted i false ov iv = operate [ov, iv] (getItem ov iv)
/-- d[y] -/
def tDGet (td ty : TE) : TE := fun σ H Q => td σ H fun x H1 => ty σ H1 fun y H2 => ∃ a v, x = .ref a ∧ DGet H2 a y (some v) ∧ Q v H2
/-- y in d, y not in d -/
def tDIn (ty td : TE) : TE := fun σ H Q => ty σ H fun y H1 => td σ H1 fun x H2 => ∃ a o, x = .ref a ∧ DGet H2 a y o ∧ Q (.bl o.isSome) H2
def tDNotIn (ty td : TE) : TE := fun σ H Q => ty σ H fun y H1 => td σ H1 fun x H2 => ∃ a o, x = .ref a ∧ DGet H2 a y o ∧ Q (.bl (!o.isSome)) H2
/-- d[y] = v -/
def sDPut (td ty tv : TE) : TS := fun D σ H => tv σ H fun v H1 => td σ H1 fun x H2 => ty σ H2 fun y H3 => ∃ a H4, x = .ref a ∧ DPut H3 a y v H4 ∧ D.nx σ H4
/-- d[y] op= v -/
def sDAug (td ty tv : TE) (rd : V → V → Hp → VK → Prop) : TS := fun D σ H => td σ H fun x H1 => ty σ H1 fun y H2 => ∃ a v, x = .ref a ∧ DGet H2 a y (some v) ∧
  tv σ H2 fun y2 H3 => rd v y2 H3 fun z H4 => ∃ H5, DPut H4 a y z H5 ∧ D.nx σ H5
/-- del d[y] -/
def sDDel (td ty : TE) : TS := fun D σ H => td σ H fun x H1 => ty σ H1 fun y H2 => ∃ a kvs k, x = .ref a ∧ H2 a = some (.dK kvs) ∧ y = kV k ∧ (valV kvs k).isSome = true ∧ D.nx σ (upd H2 a (.dK (dropK kvs k)))

section
variable {X : Cx} {o i e value : Expr} {pos pos' tpos : Pos} {td ty tv : TE}
end


/-! ### displays -/
/-- {}, to be a dict of the kind that is wanted -/
def tDNewK : TE := fun _ H Q => ∀ p, H p = none → Q (.ref p) (upd H p (.dK []))
def tDNewT : TE := fun _ H Q => ∀ p, H p = none → Q (.ref p) (upd H p (.dT []))
section
variable {X : Cx} {pos : Pos}
end

/-- the pairs of a display, from the left -/
def tPairs : List (TE × TE) → St → Hp → (List (V × V) → Hp → Prop) → Prop
  | [], _, H, Q => Q [] H
  | (tk, tv) :: r, σ, H, Q => tk σ H fun x H1 => tv σ H1 fun y H2 => tPairs r σ H2 fun ps H3 => Q ((x, y) :: ps) H3
abbrev VV : List (V × V) → List (Value × Value) → Prop := Paired fun p q => RelV p.1 q.1 ∧ RelV p.2 q.2
def PPs (X : Cx) (pos : Pos) (keys : List (Option Expr)) (values : List Expr) (trs : List (TE × TE)) : Prop :=
  ∀ (pins : List (Addr × Obj)) (s : Shared) (σ : St) (H : Hp) (Q : List (V × V) → Hp → Prop), Inv X pins σ H s → tPairs trs σ H Q →
    wpAny (model X.prog X.w) X.A (evalPairs (pairTrees keys values X.env pos)) (fun vs s' => ∃ ps H', Inv X pins σ H' s' ∧ VV ps vs ∧ Q ps H') X.xe s
def mergeK (kvs more : List (Key × V)) : List (Key × V) := more.foldl (fun acc kv => putK acc kv.1 kv.2) kvs
/-- {k: v, ..} with keys ints and texts; the new dict stands empty while the pairs are made -/
def tDisp (trs : List (TE × TE)) : TE := fun σ H Q => ∀ p, H p = none → tPairs trs σ (upd H p (.dK [])) fun ps H2 => H2 p = some (.dK []) ∧ ∃ kvs : List (Key × V), ps = kvs.map (fun kv => (kV kv.1, kv.2)) ∧ kvs.length ≤ 15 ∧ Q (.ref p) (upd H2 p (.dK (mergeK [] kvs)))
/-! ### methods -/
/-- a method call o.m(e) of a built-in, with one argument: what must be seen of the text -/
structure M1 (X : Cx) (o : Expr) (m : Str) (apos : Pos) (e : Expr) (cpos : Pos) : Prop where
  base : attributeBase o m X.env (eval o X.env) = eval o X.env
  few : ((backTo cpos (starEach [e] X.env)).all (fun x => !x.1) && (backToKw cpos (keywordEach [] X.env)).all (fun x => x.1.isSome)
    && decide (([e] : List Expr).length + ([] : List Keyword).length + (if ([] : List Keyword).isEmpty then 0 else 1) < 30)) = true
  line : (apos.endLine == cpos.line) = true
  trees : backTo cpos (starEach [e] X.env) = [(false, eval e X.env)]
structure M2 (X : Cx) (o : Expr) (m : Str) (apos : Pos) (e f : Expr) (cpos : Pos) : Prop where
  base : attributeBase o m X.env (eval o X.env) = eval o X.env
  few : ((backTo cpos (starEach [e, f] X.env)).all (fun x => !x.1) && (backToKw cpos (keywordEach [] X.env)).all (fun x => x.1.isSome)
    && decide (([e, f] : List Expr).length + ([] : List Keyword).length + (if ([] : List Keyword).isEmpty then 0 else 1) < 30)) = true
  line : (apos.endLine == cpos.line) = true
  trees : backTo cpos (starEach [e, f] X.env) = [(false, eval e X.env), (false, eval f X.env)]

/-- a is a dict, whatever its keys -/
def IsD (H : Hp) (a : Addr) : Prop := (∃ kvs, Rd H a (.dK kvs)) ∨ ∃ kvs, Rd H a (.dT kvs)
section
variable {X : Cx} {pins : List (Addr × Obj)} {σ : St} {H : Hp} {s : Shared} {a : Addr} {y d : V} {u r : Value} {o : Option V} {A : Around} {E : Value → Shared → Prop}
end

def tDGet1 (td ty : TE) : TE := fun σ H Q => td σ H fun x H1 => ∃ a, x = .ref a ∧ IsD H1 a ∧ ty σ H1 fun y H2 => ∃ o, DGet H2 a y o ∧ Q (o.getD .non) H2
def tDGet2 (td ty tx : TE) : TE := fun σ H Q => td σ H fun x H1 => ∃ a, x = .ref a ∧ IsD H1 a ∧ ty σ H1 fun y H2 => tx σ H2 fun z H3 => ∃ o, DGet H3 a y o ∧ Q (o.getD z) H3
/-- d.pop(k): there; d.pop(k, x): there or not -/
def tDPop1 (td ty : TE) : TE := fun σ H Q => td σ H fun x H1 => ∃ a, x = .ref a ∧ IsD H1 a ∧ ty σ H1 fun y H2 => ∃ kvs k v, H2 a = some (.dK kvs) ∧ y = kV k ∧ valV kvs k = some v ∧ Q v (upd H2 a (.dK (dropK kvs k)))
def tDPop2 (td ty tx : TE) : TE := fun σ H Q => td σ H fun x H1 => ∃ a, x = .ref a ∧ IsD H1 a ∧ ty σ H1 fun y H2 => tx σ H2 fun z H3 => ∃ kvs k, H3 a = some (.dK kvs) ∧ y = kV k ∧
  (∀ v, valV kvs k = some v → Q v (upd H3 a (.dK (dropK kvs k)))) ∧ (valV kvs k = none → Q z H3)
section
variable {X : Cx} {o e f : Expr} {apos cpos : Pos} {td ty tx : TE}
end

/-! ### dict(d): a copy -/
section
variable {X : Cx} {pins : List (Addr × Obj)} {σ : St} {H : Hp} {s : Shared} {a : Addr} {kvs : List (Key × V)} {A : Around} {E : Value → Shared → Prop}
end


section
variable {X : Cx} {pins : List (Addr × Obj)} {σ : St} {H : Hp} {s : Shared} {a : Addr} {y : V} {u : Value} {A : Around} {E : Value → Shared → Prop}
end
end L2

namespace Att
open PySem PySem.W PySem.Calls PyProof.Rows

/-! ### the script -/
/-! ### the attachment: holds_open's last premise (the goal 'hc' behind k_head) from a wpAny of the law's body -/
/-! ### rules over ANY heap (no ledger) from facts about the written part K: the library's own take a ledger (News) for what they write -/
section
variable {prog : Program} {w : World} {A : Around} {E : Value → Shared → Prop} {s : Shared} {K : Frag}

/-! the whole heap as the ledger: makes every rule that writes through a ledger a rule over any heap -/
end
end Att

namespace L2
open PySem PySem.Spec PyProof.Rows

end L2

namespace L2
open PySem PySem.Spec PyProof.Rows

end L2

/- THE LAST THEOREM (shape; LID, My.* are yours):
   My.Adr: a structure of the addresses that your layer names (classes, functions); My.Txt K t: a structure (Prop) of the equations over K;
   My.txt_mk : {K} {implicit addresses ..} (e1 : nsIn K mainGlobals "law" = some (some (.ref f))) (e2 : K.lookup f = some ⟨oc, od, .func (fnOf "law" "law" params body scope dV kV doc pm an cdv ct), sl⟩) (e3 : codeIn K cdv "law" = true) .. : ∃ t, My.Txt K t

set_option maxRecDepth 100000 in
set_option maxHeartbeats 0 in
theorem PySem.Challenge.cw_LID_holds : PySem.Challenge.rw_LID.Holds := by
  w_on; o_law; k_head; (case hw => w_witness2)
  k_fill
  refine L2.walk_of (l := PySem.Challenge.rw_LID) (n := 63) (k := 40) (x := "script") (CX := fun w => ..) (sp := fun _ => My.sp_law) rfl (by decide) rfl ⟨rfl, by decide, by decide⟩ (fun w h Y => PySem.W.kIn_of Y) ?F ?S ?C
  case F =>
    intro w mg fa h KX G hmg
    have T : ∃ t, My.Txt (L2.KOf KX) t := by
      dsimp only [L2.KOf]                          -- K must stand as «<heap const> w.params» for k_is
      refine' My.txt_mk ?e1 ?e2 ?e3 ..
      (case e1 => PySem.W.k_is)                    -- in the order: a name -> its address -> its object -> its parts
      (case e2 => PySem.W.k_is)
      ..
    obtain ⟨t, T⟩ := T
    have e0 := hmg.symm.trans (PySem.W.mg_of KX G T.law)
    cases e0                                       -- fa is the law's own address
    exact ⟨_, fun s u => .of_eq rfl, fun base kb nb => My.law_fn T kb nb⟩     -- if «.of_eq rfl» comes too early: refine' ⟨_, ?b, fun base kb nb => My.law_fn T kb nb⟩; exact fun s u => .of_eq rfl
  case S => exact fun w H a ns hl hO hS => ..
  case C => exact ..
(the tactic k_is has no namespace: write k_is) -/

/-! SHORT WORDS over the layer: a def of the text, its body, what a loop and a test want. -/
namespace L2
open PySem PySem.Spec PyProof.Rows

/-! ### the text by places -/
/-! ### no exception leaves a def -/
/-! ### a def (or method) of the text as it stands behind the top -/
section
variable {P : Program} {w : World} {K : PySem.W.Frag} {mg : Str → Option Value} {base : Heap}
end
/-! ### expressions in short: the name that stands in the i-th slot -/
section
variable {X : Cx}
end

/-! ### tests -/
/-! ### heaps -/
/-! ### a dict's pairs: keys that differ -/
section
variable {κ : Type} [DecidableEq κ]
end
end L2


set_option Elab.async false
set_option linter.all false
set_option maxRecDepth 100000
set_option maxHeartbeats 4000000
namespace L2
open PySem PySem.Spec PyProof.Rows
/-! ### DATA: a value with all that it holds; M: the things that may still change, by number -/
inductive Dt where
  | non
  | bl (b : Bool)
  | int (i : Int)
  | str (x : Str)
  | tup (xs : List Dt)
  | lst (xs : List Dt)
  | obj (C : Addr) (ns : List Str) (xs : List Dt)
  | loc (k : Nat)
  | ref (a : Addr)
  | ty (n : String)
  | scr (ns : List Int)
  | kt (xs : List Dt)
inductive MO where
  | lst (xs : List Dt)
  | ins (C : Addr) (ns : List Str) (xs : List Dt)
  | dct (ks : List Key) (xs : List Dt)
abbrev Ms := List MO
abbrev En := List (Option Dt)
mutual
def Den (K : PySem.W.Frag) (G : Hp) (L : List Addr) : Dt → V → Prop
  | .non, v => v = .non
  | .bl b, v => v = .bl b
  | .int i, v => v = .int i
  | .str x, v => v = .str x
  | .tup ds, v => ∃ a vs, v = .ref a ∧ G a = some (.tup vs) ∧ DenL K G L ds vs
  | .lst ds, v => ∃ a vs, v = .ref a ∧ G a = some (.lst vs) ∧ DenL K G L ds vs
  | .obj C ns ds, v => ∃ a dx vs, v = .ref a ∧ G a = some (.ins C dx (ns.zip vs)) ∧ ns.length = ds.length ∧ DenL K G L ds vs
  | .loc k, v => ∃ a, v = .ref a ∧ L[k]? = some a
  | .ref a, v => v = .ref a
  | .ty n, v => v = .ty n
  | .scr ns, v => ∃ a, v = .ref a ∧ SqL K G a (ns.map V.int)
  | .kt ds, v => ∃ a vs, v = .ref a ∧ SqT K G a vs ∧ DenL K G L ds vs
def DenL (K : PySem.W.Frag) (G : Hp) (L : List Addr) : List Dt → List V → Prop
  | [], vs => vs = []
  | d :: ds, vs => ∃ v r, vs = v :: r ∧ Den K G L d v ∧ DenL K G L ds r
end
def Pre (L L' : List Addr) : Prop := ∃ t, L' = L ++ t
theorem Pre.refl (L : List Addr) : Pre L L := ⟨[], by simp⟩
theorem Pre.trans {a b c : List Addr} (h : Pre a b) (h' : Pre b c) : Pre a c := by
  obtain ⟨t, rfl⟩ := h
  obtain ⟨u, rfl⟩ := h'
  exact ⟨t ++ u, by simp⟩
theorem Pre.get {a b : List Addr} (h : Pre a b) {k : Nat} {x : Addr} (e : a[k]? = some x) : b[k]? = some x := by
  obtain ⟨t, rfl⟩ := h
  have hk : k < a.length := (List.getElem?_eq_some_iff.mp e).1
  rw [List.getElem?_append_left hk]; exact e
theorem Same.rd {H H' : Hp} {a : Addr} {u : HO} (e : Same H H') (h : Rd H a u) : Rd H' a u := by
  rcases h with h | ⟨o, h⟩
  · exact .inl (e _ _ h)
  · exact .inr ⟨o, e _ _ h⟩
theorem Same.sqT {K : PySem.W.Frag} {H H' : Hp} {a : Addr} {xs : List V} (e : Same H H') (h : SqT K H a xs) : SqT K H' a xs := by
  rcases h with h | h
  · exact .inl (e.rd h)
  · exact .inr h
section
variable {K : PySem.W.Frag} {G G' : Hp} {L L' : List Addr}
mutual
theorem Den.mono (g : Same G G') (l : Pre L L') : ∀ (d : Dt) (v : V), Den K G L d v → Den K G' L' d v
  | .non, _, h => h
  | .bl _, _, h => h
  | .int _, _, h => h
  | .str _, _, h => h
  | .tup ds, _, ⟨a, vs, e, h1, h2⟩ => ⟨a, vs, e, g _ _ h1, DenL.mono g l ds vs h2⟩
  | .lst ds, _, ⟨a, vs, e, h1, h2⟩ => ⟨a, vs, e, g _ _ h1, DenL.mono g l ds vs h2⟩
  | .obj C ns ds, _, ⟨a, dx, vs, e, h1, hn, h2⟩ => ⟨a, dx, vs, e, g _ _ h1, hn, DenL.mono g l ds vs h2⟩
  | .loc k, _, ⟨a, e, h1⟩ => ⟨a, e, l.get h1⟩
  | .ref _, _, h => h
  | .ty _, _, h => h
  | .scr _, _, ⟨a, e, h1⟩ => ⟨a, e, g.seq h1⟩
  | .kt ds, _, ⟨a, vs, e, h1, h2⟩ => ⟨a, vs, e, g.sqT h1, DenL.mono g l ds vs h2⟩
theorem DenL.mono (g : Same G G') (l : Pre L L') : ∀ (ds : List Dt) (vs : List V), DenL K G L ds vs → DenL K G' L' ds vs
  | [], _, h => h
  | d :: ds, _, ⟨v, r, e, h1, h2⟩ => ⟨v, r, e, Den.mono g l d v h1, DenL.mono g l ds r h2⟩
end
theorem DenL.pair : ∀ {ds : List Dt} {vs : List V}, DenL K G L ds vs → Paired (Den K G L) ds vs
  | [], _, h => by
    have h : _ = _ := h
    subst h
    exact .nil
  | d :: ds, _, ⟨v, r, e, h1, h2⟩ => by
    subst e
    exact .cons h1 (DenL.pair h2)
theorem DenL.of : ∀ {ds : List Dt} {vs : List V}, Paired (Den K G L) ds vs → DenL K G L ds vs
  | _, _, .nil => rfl
  | _, _, .cons h t => ⟨_, _, rfl, h, DenL.of t⟩
end
section
variable {α β : Type} {F : α → β → Prop}
theorem prd_get : ∀ {xs : List α} {us : List β} {i : Nat} {x : α}, Paired F xs us → xs[i]? = some x → ∃ u, us[i]? = some u ∧ F x u
  | _, _, _, _, .nil, e => by simp at e
  | _, _, 0, _, .cons r _, e => by simp at e; subst e; exact ⟨_, rfl, r⟩
  | _, _, i + 1, x, .cons _ t, e => by
    obtain ⟨u, h1, h2⟩ := prd_get (i := i) (x := x) t (by simpa using e)
    exact ⟨u, by simpa using h1, h2⟩
theorem prd_set {x : α} {u : β} (r : F x u) : ∀ {xs : List α} {us : List β} (i : Nat), Paired F xs us → Paired F (xs.set i x) (us.set i u)
  | _, _, _, .nil => .nil
  | _, _, 0, .cons _ t => .cons r t
  | _, _, i + 1, .cons q t => .cons q (prd_set r i t)
theorem prd_app : ∀ {xs ys : List α} {us ws : List β}, Paired F xs us → Paired F ys ws → Paired F (xs ++ ys) (us ++ ws)
  | _, _, _, _, .nil, s => s
  | _, _, _, _, .cons r t, s => .cons r (prd_app t s)
theorem prd_take : ∀ {xs : List α} {us : List β} (n : Nat), Paired F xs us → Paired F (xs.take n) (us.take n)
  | _, _, 0, _ => .nil
  | _, _, _ + 1, .nil => .nil
  | _, _, n + 1, .cons r t => .cons r (prd_take n t)
theorem prd_drop : ∀ {xs : List α} {us : List β} (n : Nat), Paired F xs us → Paired F (xs.drop n) (us.drop n)
  | _, _, 0, r => r
  | _, _, _ + 1, .nil => .nil
  | _, _, n + 1, .cons _ t => prd_drop n t
theorem prd_rep {xs : List α} {us : List β} (h : Paired F xs us) : ∀ k : Nat, Paired F (List.replicate k xs).flatten (List.replicate k us).flatten
  | 0 => .nil
  | k + 1 => by
    rw [List.replicate_succ, List.replicate_succ, List.flatten_cons, List.flatten_cons]
    exact prd_app h (prd_rep h k)
end
section
variable {K : PySem.W.Frag} {G : Hp} {L : List Addr}
theorem DenL.length {ds : List Dt} {vs : List V} (h : DenL K G L ds vs) : ds.length = vs.length := Paired.length h.pair
theorem DenL.get {ds : List Dt} {vs : List V} {i : Nat} {d : Dt} (h : DenL K G L ds vs) (e : ds[i]? = some d) : ∃ v, vs[i]? = some v ∧ Den K G L d v := prd_get h.pair e
theorem DenL.app {ds es : List Dt} {vs us : List V} (h : DenL K G L ds vs) (h' : DenL K G L es us) : DenL K G L (ds ++ es) (vs ++ us) := .of (prd_app h.pair h'.pair)
theorem denL_ints : ∀ {ns : List Int}, DenL K G L (ns.map Dt.int) (ns.map V.int)
  | [] => rfl
  | n :: ns => ⟨_, _, rfl, rfl, denL_ints⟩
theorem denL_one {d : Dt} {vs : List V} (h : DenL K G L [d] vs) : ∃ v, vs = [v] ∧ Den K G L d v := by
  obtain ⟨v, r, rfl, h1, h2⟩ := h
  have h2 : r = [] := h2
  subst h2
  exact ⟨v, rfl, h1⟩
theorem denL_two {d e : Dt} {vs : List V} (h : DenL K G L [d, e] vs) : ∃ v u, vs = [v, u] ∧ Den K G L d v ∧ Den K G L e u := by
  obtain ⟨v, r, rfl, h1, h2⟩ := h
  obtain ⟨u, rfl, h3⟩ := denL_one h2
  exact ⟨v, u, rfl, h1, h3⟩
end
/-! ### the state -/
def MOk (K : PySem.W.Frag) (G : Hp) (L : List Addr) (H : Hp) (a : Addr) : MO → Prop
  | .lst ds => ∃ vs, H a = some (.lst vs) ∧ DenL K G L ds vs
  | .ins C ns ds => ∃ dx vs, H a = some (.ins C dx (ns.zip vs)) ∧ ns.length = ds.length ∧ DenL K G L ds vs
  | .dct ks ds => ∃ vs, H a = some (.dK (ks.zip vs)) ∧ ks.length = ds.length ∧ DenL K G L ds vs
structure Rl (K : PySem.W.Frag) (G : Hp) (L : List Addr) (M : Ms) (H : Hp) : Prop where
  sub : Same G H
  len : L.length = M.length
  nd : L.Nodup
  ats : ∀ (k : Nat) (a : Addr) (m : MO), L[k]? = some a → M[k]? = some m → G a = none ∧ MOk K G L H a m
structure Ex (G : Hp) (L : List Addr) (H : Hp) (G' : Hp) (L' : List Addr) (H' : Hp) : Prop where
  g : Same G G'
  l : Pre L L'
  fr : ∀ b, G b = none → H b ≠ none → G' b = none
  out : ∀ b o, H b = some o → b ∉ L → H' b = some o
  new : ∀ b ∈ L', b ∈ L ∨ H b = none
  dom : ∀ b, H b ≠ none → H' b ≠ none
theorem Ex.refl (G : Hp) (L : List Addr) (H : Hp) : Ex G L H G L H := ⟨.refl _, .refl _, fun _ h _ => h, fun _ _ h _ => h, fun _ h => .inl h, fun _ h => h⟩
theorem Ex.trans {G : Hp} {L : List Addr} {H G1 : Hp} {L1 : List Addr} {H1 G2 : Hp} {L2 : List Addr} {H2 : Hp} (a : Ex G L H G1 L1 H1) (b : Ex G1 L1 H1 G2 L2 H2) : Ex G L H G2 L2 H2 where
  g := a.g.trans b.g
  l := a.l.trans b.l
  fr := fun x h1 h2 => b.fr x (a.fr x h1 h2) (a.dom x h2)
  out := fun x o h1 h2 => b.out x o (a.out x o h1 h2) fun z => (a.new x z).elim h2 fun q => by rw [h1] at q; cases q
  new := fun x h => by
    rcases b.new x h with z | z
    · exact a.new x z
    · right
      cases q : H x with
      | none => rfl
      | some o => exact absurd z (a.dom x (by rw [q]; simp))
  dom := fun x h => b.dom x (a.dom x h)
theorem MOk.there {K : PySem.W.Frag} {G : Hp} {L : List Addr} {H : Hp} {a : Addr} {m : MO} (h : MOk K G L H a m) : H a ≠ none := by
  cases m with
  | lst ds => obtain ⟨vs, e, _⟩ := h; rw [e]; simp
  | ins C ns ds => obtain ⟨dx, vs, e, _⟩ := h; rw [e]; simp
  | dct ks ds => obtain ⟨vs, e, _⟩ := h; rw [e]; simp
theorem MOk.mono {K : PySem.W.Frag} {G G' : Hp} {L L' : List Addr} {H H' : Hp} {a : Addr} {m : MO} (g : Same G G') (l : Pre L L') (e : H' a = H a) (h : MOk K G L H a m) : MOk K G' L' H' a m := by
  cases m with
  | lst ds => obtain ⟨vs, e1, h⟩ := h; exact ⟨vs, e.trans e1, DenL.mono g l _ _ h⟩
  | ins C ns ds => obtain ⟨dx, vs, e1, h0, h⟩ := h; exact ⟨dx, vs, e.trans e1, h0, DenL.mono g l _ _ h⟩
  | dct ks ds => obtain ⟨vs, e1, h0, h⟩ := h; exact ⟨vs, e.trans e1, h0, DenL.mono g l _ _ h⟩
section
variable {K : PySem.W.Frag} {G : Hp} {L : List Addr} {M : Ms} {H : Hp} {p : Addr} {o : HO}
theorem Rl.at_mem (r : Rl K G L M H) {a : Addr} (h : a ∈ L) : ∃ (k : Nat) (m : MO), L[k]? = some a ∧ M[k]? = some m ∧ G a = none ∧ MOk K G L H a m := by
  obtain ⟨k, hk, e⟩ := List.getElem_of_mem h
  have e1 : L[k]? = some a := by rw [List.getElem?_eq_getElem hk, e]
  have e2 : M[k]? = some (M[k]'(by rw [← r.len]; exact hk)) := List.getElem?_eq_getElem _
  exact ⟨k, _, e1, e2, r.ats k a _ e1 e2⟩
theorem Rl.memN (r : Rl K G L M H) (hp : H p = none) : p ∉ L := fun z => by
  obtain ⟨k, m, _, _, _, h⟩ := r.at_mem z
  exact h.there hp
theorem Rl.newG (r : Rl K G L M H) (hp : H p = none) : Rl K (upd G p o) L M (upd H p o) where
  sub := fun b u e => by
    by_cases hb : b = p
    · subst hb; rw [upd_same] at e ⊢; exact e
    · rw [upd_ne hb] at e ⊢; exact r.sub b u e
  len := r.len
  nd := r.nd
  ats := fun k a m h1 h2 => by
    obtain ⟨q1, q2⟩ := r.ats k a m h1 h2
    have hb : a ≠ p := fun z => q2.there (by rw [z]; exact hp)
    exact ⟨by rw [upd_ne hb]; exact q1, q2.mono (fun b u e => by rw [upd_ne (fun z => by rw [z, r.sub.free hp] at e; cases e)]; exact e) (.refl _) (upd_ne hb)⟩
theorem Rl.exG (r : Rl K G L M H) (hp : H p = none) : Ex G L H (upd G p o) L (upd H p o) where
  g := fun b u e => by rw [upd_ne (fun z => by rw [z, r.sub.free hp] at e; cases e)]; exact e
  l := .refl _
  fr := fun b h1 h2 => by rw [upd_ne (fun z => h2 (by rw [z]; exact hp))]; exact h1
  out := fun b u h1 _ => by rw [upd_ne (fun z => by rw [z, hp] at h1; cases h1)]; exact h1
  new := fun b h => .inl h
  dom := fun b h => by rw [upd_ne (fun z => h (by rw [z]; exact hp))]; exact h
/-- a new thing that may change -/
theorem Rl.newM {m : MO} (r : Rl K G L M H) (hp : H p = none) (hm : MOk K G (L ++ [p]) (upd H p o) p m) : Rl K G (L ++ [p]) (M ++ [m]) (upd H p o) where
  sub := fun b u e => by rw [upd_ne (fun z => by rw [z, r.sub.free hp] at e; cases e)]; exact r.sub b u e
  len := by rw [List.length_append, List.length_append, r.len]; rfl
  nd := List.nodup_append.mpr ⟨r.nd, by simp, fun a ha b hb => by
    have e : b = p := by simpa using hb
    rw [e]; exact fun z => r.memN hp (z ▸ ha)⟩
  ats := fun k a m' h1 h2 => by
    by_cases hk : k < L.length
    · rw [List.getElem?_append_left hk] at h1
      rw [List.getElem?_append_left (by rw [← r.len]; exact hk)] at h2
      obtain ⟨q1, q2⟩ := r.ats k a m' h1 h2
      exact ⟨q1, q2.mono (.refl _) ⟨[p], rfl⟩ (upd_ne fun z => q2.there (by rw [z]; exact hp))⟩
    · have e : k = L.length := by
        have := (List.getElem?_eq_some_iff.mp h1).1
        rw [List.length_append] at this
        simp at this
        omega
      rw [e, List.getElem?_append_right (Nat.le_refl _)] at h1
      rw [e, r.len, List.getElem?_append_right (Nat.le_refl _)] at h2
      simp at h1 h2
      subst h1 h2
      exact ⟨r.sub.free hp, hm⟩
theorem Rl.exM (r : Rl K G L M H) (hp : H p = none) : Ex G L H G (L ++ [p]) (upd H p o) where
  g := .refl _
  l := ⟨[p], rfl⟩
  fr := fun b h1 _ => h1
  out := fun b u h1 _ => by rw [upd_ne (fun z => by rw [z, hp] at h1; cases h1)]; exact h1
  new := fun b h => by
    rcases List.mem_append.mp h with z | z
    · exact .inl z
    · have e : b = p := by simpa using z
      right; rw [e]; exact hp
  dom := fun b h => by rw [upd_ne (fun z => h (by rw [z]; exact hp))]; exact h
/-- a thing is changed -/
theorem Rl.setM {k : Nat} {a : Addr} {m : MO} (r : Rl K G L M H) (hk : L[k]? = some a) (hm : MOk K G L (upd H a o) a m) : Rl K G L (M.set k m) (upd H a o) where
  sub := fun b u e => by
    obtain ⟨k', m', e1, e2, q1, _⟩ := r.at_mem (List.mem_of_getElem? hk)
    rw [upd_ne (fun z => by rw [z, q1] at e; cases e)]; exact r.sub b u e
  len := by rw [List.length_set]; exact r.len
  nd := r.nd
  ats := fun k' a' m' h1 h2 => by
    by_cases e : k' = k
    · subst e
      rw [hk] at h1; cases h1
      have hl : k' < M.length := by rw [← r.len]; exact (List.getElem?_eq_some_iff.mp hk).1
      rw [List.getElem?_set_self hl] at h2
      cases h2
      obtain ⟨_, _, _, _, q1, _⟩ := r.at_mem (List.mem_of_getElem? hk)
      exact ⟨q1, hm⟩
    · rw [List.getElem?_set_ne (fun z => e z.symm)] at h2
      obtain ⟨q1, q2⟩ := r.ats k' a' m' h1 h2
      have ne : a' ≠ a := fun z => by
        subst z
        exact e ((List.getElem?_inj (List.getElem?_eq_some_iff.mp h1).1 r.nd).mp (h1.trans hk.symm))
      exact ⟨q1, q2.mono (.refl _) (.refl _) (upd_ne ne)⟩
theorem Rl.exS {k : Nat} {a : Addr} (r : Rl K G L M H) (hk : L[k]? = some a) : Ex G L H G L (upd H a o) where
  g := .refl _
  l := .refl _
  fr := fun b h1 _ => h1
  out := fun b u h1 h2 => by rw [upd_ne (fun z => h2 (by rw [z]; exact List.mem_of_getElem? hk))]; exact h1
  new := fun b h => .inl h
  dom := fun b h => by
    by_cases e : b = a
    · rw [e, upd_same]; simp
    · rw [upd_ne e]; exact h
end
/-! ### names -/
structure EnD (K : PySem.W.Frag) (G : Hp) (L : List Addr) (ρ : En) (σ : St) : Prop where
  len : ρ.length = σ.length
  ats : ∀ (i : Nat) (d : Dt), ρ[i]? = some (some d) → ∃ v, σ[i]? = some (some v) ∧ Den K G L d v
section
variable {K : PySem.W.Frag} {G G' : Hp} {L L' : List Addr} {H H' : Hp} {ρ : En} {σ : St}
theorem EnD.mono (h : EnD K G L ρ σ) (e : Ex G L H G' L' H') : EnD K G' L' ρ σ := ⟨h.len, fun i d q => let ⟨v, a, b⟩ := h.ats i d q; ⟨v, a, Den.mono e.g e.l d v b⟩⟩
theorem EnD.set (h : EnD K G L ρ σ) (i : Nat) {d : Dt} {v : V} (q : Den K G L d v) : EnD K G L (ρ.set i (some d)) (σ.set i (some v)) := by
  refine ⟨by rw [List.length_set, List.length_set]; exact h.len, fun j d' e => ?_⟩
  by_cases hj : i = j
  · subst hj
    have hl : i < ρ.length := by
      have := (List.getElem?_eq_some_iff.mp e).1
      rwa [List.length_set] at this
    rw [List.getElem?_set_self hl] at e
    cases e
    exact ⟨v, List.getElem?_set_self (by rw [← h.len]; exact hl), q⟩
  · rw [List.getElem?_set_ne hj] at e
    obtain ⟨u, a, b⟩ := h.ats j d' e
    exact ⟨u, by rw [List.getElem?_set_ne hj]; exact a, b⟩
end
/-! ### exceptions -/
abbrev DQ := Dt → Ms → Prop
abbrev DX := En → Addr → List (Str × Dt) → Ms → Prop
def xRel (K : PySem.W.Frag) (G : Hp) (L : List Addr) (H : Hp) (fs : List (Str × Dt)) (od : Option Addr) : Prop :=
  (fs = [] ∧ od = none) ∨ fs ≠ [] ∧ ∃ dx vs, od = some dx ∧ H dx = some (.xd ((fs.map (·.1)).zip vs)) ∧ DenL K G L (fs.map (·.2)) vs
def XOk (K : PySem.W.Frag) (G : Hp) (L : List Addr) (H : Hp) (R : St → XK) (x : DX) : Prop :=
  ∀ σ ρ C fs M' G' L' H' od, x ρ C fs M' → Ex G L H G' L' H' → Rl K G' L' M' H' → EnD K G' L' ρ σ → xRel K G' L' H' fs od → R σ (.ref C) od H'
theorem XOk.on {K : PySem.W.Frag} {G : Hp} {L : List Addr} {H G1 : Hp} {L1 : List Addr} {H1 : Hp} {R : St → XK} {x : DX} (h : XOk K G L H R x) (e : Ex G L H G1 L1 H1) : XOk K G1 L1 H1 R x :=
  fun σ ρ C fs M' G' L' H' od q e' r n y => h σ ρ C fs M' G' L' H' od q (e.trans e') r n y
def noX : DX := fun _ _ _ _ => False
theorem xok_no {K : PySem.W.Frag} {G : Hp} {L : List Addr} {H : Hp} {R : St → XK} : XOk K G L H R noX := fun _ _ _ _ _ _ _ _ _ q => q.elim
/-! ### the judgements -/
abbrev DE := En → Ms → DQ → DX → Prop
abbrev DT := En → Ms → (Bool → Ms → Prop) → DX → Prop
abbrev DA := En → Ms → (List Dt → Ms → Prop) → DX → Prop
structure DEnds where
  nx : En → Ms → Prop
  rt : DQ
  bk : En → Ms → Prop := fun _ _ => False
  ct : En → Ms → Prop := fun _ _ => False
  x : DX := noX
abbrev DS := DEnds → En → Ms → Prop
inductive Fin (K : PySem.W.Frag) (G0 : Hp) (L0 : List Addr) (H0 : Hp) (q : DQ) (v : V) (H : Hp) : Prop
  | mk (d : Dt) (G : Hp) (L : List Addr) (M : Ms) (e : Ex G0 L0 H0 G L H) (r : Rl K G L M H) (n : Den K G L d v) (h : q d M)
inductive FinT (K : PySem.W.Frag) (G0 : Hp) (L0 : List Addr) (H0 : Hp) (q : Bool → Ms → Prop) (b : Bool) (H : Hp) : Prop
  | mk (G : Hp) (L : List Addr) (M : Ms) (e : Ex G0 L0 H0 G L H) (r : Rl K G L M H) (h : q b M)
inductive FinA (K : PySem.W.Frag) (G0 : Hp) (L0 : List Addr) (H0 : Hp) (q : List Dt → Ms → Prop) (vs : List V) (H : Hp) : Prop
  | mk (ds : List Dt) (G : Hp) (L : List Addr) (M : Ms) (e : Ex G0 L0 H0 G L H) (r : Rl K G L M H) (n : DenL K G L ds vs) (h : q ds M)
inductive FinN (K : PySem.W.Frag) (G0 : Hp) (L0 : List Addr) (H0 : Hp) (q : En → Ms → Prop) (σ : St) (H : Hp) : Prop
  | mk (ρ : En) (G : Hp) (L : List Addr) (M : Ms) (e : Ex G0 L0 H0 G L H) (r : Rl K G L M H) (n : EnD K G L ρ σ) (h : q ρ M)
def FinS (K : PySem.W.Frag) (G0 : Hp) (L0 : List Addr) (H0 : Hp) (Dn : DEnds) : Ends := ⟨FinN K G0 L0 H0 Dn.nx, Fin K G0 L0 H0 Dn.rt, FinN K G0 L0 H0 Dn.bk, FinN K G0 L0 H0 Dn.ct⟩
inductive lowE (K : PySem.W.Frag) (R : St → XK) (t : DE) (σ : St) (H : Hp) (Q : VK) : Prop
  | mk (G : Hp) (L : List Addr) (ρ : En) (M : Ms) (q : DQ) (x : DX) (r : Rl K G L M H) (n : EnD K G L ρ σ) (h : t ρ M q x) (hx : XOk K G L H R x) (hQ : ∀ v H1, Fin K G L H q v H1 → Q v H1)
inductive lowT (K : PySem.W.Frag) (R : St → XK) (t : DT) (σ : St) (H : Hp) (Q : Bool → Hp → Prop) : Prop
  | mk (G : Hp) (L : List Addr) (ρ : En) (M : Ms) (q : Bool → Ms → Prop) (x : DX) (r : Rl K G L M H) (n : EnD K G L ρ σ) (h : t ρ M q x) (hx : XOk K G L H R x) (hQ : ∀ b H1, FinT K G L H q b H1 → Q b H1)
inductive lowA (K : PySem.W.Frag) (R : St → XK) (t : DA) (σ : St) (H : Hp) (Q : List V → Hp → Prop) : Prop
  | mk (G : Hp) (L : List Addr) (ρ : En) (M : Ms) (q : List Dt → Ms → Prop) (x : DX) (r : Rl K G L M H) (n : EnD K G L ρ σ) (h : t ρ M q x) (hx : XOk K G L H R x) (hQ : ∀ vs H1, FinA K G L H q vs H1 → Q vs H1)
structure EImp (A B : Ends) : Prop where
  nx : ∀ σ H, A.nx σ H → B.nx σ H
  rt : ∀ v H, A.rt v H → B.rt v H
  bk : ∀ σ H, A.bk σ H → B.bk σ H
  ct : ∀ σ H, A.ct σ H → B.ct σ H
inductive lowS (K : PySem.W.Frag) (R : St → XK) (t : DS) (De : Ends) (σ : St) (H : Hp) : Prop
  | mk (G : Hp) (L : List Addr) (ρ : En) (M : Ms) (Dn : DEnds) (r : Rl K G L M H) (n : EnD K G L ρ σ) (h : t Dn ρ M) (hx : XOk K G L H R Dn.x) (hQ : EImp (FinS K G L H Dn) De)
def JE (X : Cx) (R : St → XK) (e : Expr) (t : DE) : Prop := PE X e (lowE X.K R t)
def JT (X : Cx) (R : St → XK) (e : Expr) (t : DT) : Prop := PT X e (lowT X.K R t)
def JW (X : Cx) (R : St → XK) (e : Expr) (t : DT) : Prop := PW X e (lowT X.K R t)
def JA (X : Cx) (R : St → XK) (es : List Expr) (t : DA) : Prop := PA X es (lowA X.K R t)
def JS (X : Cx) (R : St → XK) (st : Stmt) (t : DS) : Prop := PS X st (lowS X.K R t)
def JSs (X : Cx) (R : St → XK) (st : List Stmt) (t : DS) : Prop := PSs X st (lowS X.K R t)
section
variable {K : PySem.W.Frag} {G0 : Hp} {L0 : List Addr} {H0 G1 : Hp} {L1 : List Addr} {H1 : Hp}
theorem Fin.back {q : DQ} (e : Ex G0 L0 H0 G1 L1 H1) {v : V} {H : Hp} (h : Fin K G1 L1 H1 q v H) : Fin K G0 L0 H0 q v H := let ⟨d, G, L, M, a, b, c, f⟩ := h; ⟨d, G, L, M, e.trans a, b, c, f⟩
theorem FinN.back {q : En → Ms → Prop} (e : Ex G0 L0 H0 G1 L1 H1) {v : St} {H : Hp} (h : FinN K G1 L1 H1 q v H) : FinN K G0 L0 H0 q v H := let ⟨d, G, L, M, a, b, c, f⟩ := h; ⟨d, G, L, M, e.trans a, b, c, f⟩
theorem FinT.back {q : Bool → Ms → Prop} (e : Ex G0 L0 H0 G1 L1 H1) {v : Bool} {H : Hp} (h : FinT K G1 L1 H1 q v H) : FinT K G0 L0 H0 q v H := let ⟨G, L, M, a, b, f⟩ := h; ⟨G, L, M, e.trans a, b, f⟩
theorem FinS.back {Dn : DEnds} (e : Ex G0 L0 H0 G1 L1 H1) : EImp (FinS K G1 L1 H1 Dn) (FinS K G0 L0 H0 Dn) := ⟨fun _ _ h => FinN.back e h, fun _ _ h => Fin.back e h, fun _ _ h => FinN.back e h, fun _ _ h => FinN.back e h⟩
theorem SP.imp {X : Cx} {pins : List (Addr × Obj)} {A B : Ends} (e : EImp A B) {f : Flow} {s : Shared} (h : SP X pins A f s) : SP X pins B f s := by
  cases f with
  | next => obtain ⟨a, b, I, q⟩ := h; exact ⟨a, b, I, e.nx _ _ q⟩
  | brk => obtain ⟨a, b, I, q⟩ := h; exact ⟨a, b, I, e.bk _ _ q⟩
  | cont => obtain ⟨a, b, I, q⟩ := h; exact ⟨a, b, I, e.ct _ _ q⟩
  | ret u => obtain ⟨v, a, b, I, r, q⟩ := h; exact ⟨v, a, b, I, r, e.rt _ _ q⟩
end
section
variable {X : Cx} {R : St → XK} {e : Expr}
theorem JE.of {te : TE} {t : DE} (h : PE X e te) (hw : ∀ σ H G L ρ M q x, Rl X.K G L M H → EnD X.K G L ρ σ → t ρ M q x → XOk X.K G L H R x → te σ H (Fin X.K G L H q)) : JE X R e t := by
  intro pins s σ H Q I ⟨G, L, ρ, M, q, x, r, n, ht, hx, hQ⟩
  refine thn (h pins s σ H _ I (hw σ H G L ρ M q x r n ht hx)) fun u s1 ⟨v, H1, I1, rv, f⟩ => ⟨v, H1, I1, rv, hQ v H1 f⟩
theorem JT.of {te : TT} {t : DT} (h : PT X e te) (hw : ∀ σ H G L ρ M q x, Rl X.K G L M H → EnD X.K G L ρ σ → t ρ M q x → XOk X.K G L H R x → te σ H (FinT X.K G L H q)) : JT X R e t := by
  intro pins s σ H Q I ⟨G, L, ρ, M, q, x, r, n, ht, hx, hQ⟩
  refine thn (h pins s σ H _ I (hw σ H G L ρ M q x r n ht hx)) fun u s1 ⟨H1, I1, f⟩ => ⟨H1, I1, hQ u H1 f⟩
theorem JW.of {te : TT} {t : DT} (h : PW X e te) (hw : ∀ σ H G L ρ M q x, Rl X.K G L M H → EnD X.K G L ρ σ → t ρ M q x → XOk X.K G L H R x → te σ H (FinT X.K G L H q)) : JW X R e t := by
  intro wh pins s σ H Q I ⟨G, L, ρ, M, q, x, r, n, ht, hx, hQ⟩
  refine thn (h wh pins s σ H _ I (hw σ H G L ρ M q x r n ht hx)) fun u s1 ⟨H1, I1, f⟩ => ⟨H1, I1, hQ u H1 f⟩
theorem JA.of {es : List Expr} {te : TA} {t : DA} (h : PA X es te) (hw : ∀ σ H G L ρ M q x, Rl X.K G L M H → EnD X.K G L ρ σ → t ρ M q x → XOk X.K G L H R x → te σ H (FinA X.K G L H q)) : JA X R es t := by
  intro pos pins s σ H Q I ⟨G, L, ρ, M, q, x, r, n, ht, hx, hQ⟩
  refine thn (h pos pins s σ H _ I (hw σ H G L ρ M q x r n ht hx)) fun u s1 ⟨v, H1, I1, rv, f⟩ => ⟨v, H1, I1, rv, hQ v H1 f⟩
theorem JS.of {st : Stmt} {te : TS} {t : DS} (h : PS X st te) (hw : ∀ σ H G L ρ M Dn, Rl X.K G L M H → EnD X.K G L ρ σ → t Dn ρ M → XOk X.K G L H R Dn.x → te (FinS X.K G L H Dn) σ H) : JS X R st t := by
  intro pins s σ H De I ⟨G, L, ρ, M, Dn, r, n, ht, hx, hQ⟩
  exact thn (h pins s σ H _ I (hw σ H G L ρ M Dn r n ht hx)) fun u s1 f => SP.imp hQ f
theorem JSs.of {st : List Stmt} {te : TS} {t : DS} (h : PSs X st te) (hw : ∀ σ H G L ρ M Dn, Rl X.K G L M H → EnD X.K G L ρ σ → t Dn ρ M → XOk X.K G L H R Dn.x → te (FinS X.K G L H Dn) σ H) : JSs X R st t := by
  intro pins s σ H De I ⟨G, L, ρ, M, Dn, r, n, ht, hx, hQ⟩
  exact thn (h pins s σ H _ I (hw σ H G L ρ M Dn r n ht hx)) fun u s1 f => SP.imp hQ f
end
end L2
namespace L2
open PySem PySem.Spec PyProof.Rows
/-! ### names, constants -/
def dVar (i : Nat) : DE := fun ρ M q _ => match ρ[i]? with
  | some (some d) => q d M
  | _ => False
def dC (d : Dt) : DE := fun _ M q _ => q d M
def dOp (f : Dt → Dt → Ms → DQ → Prop) (a b : DE) : DE := fun ρ M q x => a ρ M (fun d1 M1 => b ρ M1 (fun d2 M2 => f d1 d2 M2 q) x) x
def dUn (f : Dt → Ms → DQ → Prop) (a : DE) : DE := fun ρ M q x => a ρ M (fun d1 M1 => f d1 M1 q) x
def aNil : DA := fun _ M q _ => q [] M
def aCons (a : DE) (r : DA) : DA := fun ρ M q x => a ρ M (fun d M1 => r ρ M1 (fun ds M2 => q (d :: ds) M2) x) x
def dFn (f : List Dt → Ms → DQ → Prop) (a : DA) : DE := fun ρ M q x => a ρ M (fun ds M1 => f ds M1 q) x
/-- a two-place operation by values -/
def OpD (K : PySem.W.Frag) (r : R2) (f : Dt → Dt → Ms → DQ → Prop) : Prop :=
  ∀ G0 L0 H0 G L M H v1 v2 d1 d2 q, Ex G0 L0 H0 G L H → Rl K G L M H → Den K G L d1 v1 → Den K G L d2 v2 → f d1 d2 M q → r v1 v2 H (Fin K G0 L0 H0 q)
def UnD (K : PySem.W.Frag) (r : V → Hp → VK → Prop) (f : Dt → Ms → DQ → Prop) : Prop :=
  ∀ G0 L0 H0 G L M H v1 d1 q, Ex G0 L0 H0 G L H → Rl K G L M H → Den K G L d1 v1 → f d1 M q → r v1 H (Fin K G0 L0 H0 q)
def CaD (K : PySem.W.Frag) (r : List V → Hp → VK → Prop) (f : List Dt → Ms → DQ → Prop) : Prop :=
  ∀ G0 L0 H0 G L M H vs ds q, Ex G0 L0 H0 G L H → Rl K G L M H → DenL K G L ds vs → f ds M q → r vs H (Fin K G0 L0 H0 q)
def MtD (K : PySem.W.Frag) (T : String) (r : V → List V → Hp → VK → Prop) (f : Dt → List Dt → Ms → DQ → Prop) : Prop :=
  ∀ G0 L0 H0 G L M H v d vs ds q, Ex G0 L0 H0 G L H → Rl K G L M H → Den K G L d v → DenL K G L ds vs → f d ds M q → r v vs H (Fin K G0 L0 H0 q)
section
variable {K : PySem.W.Frag} {R : St → XK} {ta tb : DE} {tc : DA} {σ : St} {H G : Hp} {L : List Addr} {ρ : En} {M : Ms} {q : DQ} {x : DX}
theorem bin_rd {r : R2} {f : Dt → Dt → Ms → DQ → Prop} (od : OpD K r f) (rl : Rl K G L M H) (n : EnD K G L ρ σ) (h : dOp f ta tb ρ M q x) (hx : XOk K G L H R x) : tOp r (lowE K R ta) (lowE K R tb) σ H (Fin K G L H q) := by
  refine ⟨G, L, ρ, M, _, x, rl, n, h, hx, fun v H1 ⟨d1, G1, L1, M1, e1, r1, n1, h1⟩ => ?_⟩
  refine ⟨G1, L1, ρ, M1, _, x, r1, n.mono e1, h1, hx.on e1, fun v2 H2 ⟨d2, G2, L2, M2, e2, r2, n2, h2⟩ => ?_⟩
  exact od G L H G2 L2 M2 H2 v v2 d1 d2 q (e1.trans e2) r2 (Den.mono e2.g e2.l _ _ n1) n2 h2
theorem un_rd {r : V → Hp → VK → Prop} {f : Dt → Ms → DQ → Prop} (od : UnD K r f) (rl : Rl K G L M H) (n : EnD K G L ρ σ) (h : dUn f ta ρ M q x) (hx : XOk K G L H R x) : tUn r (lowE K R ta) σ H (Fin K G L H q) := by
  refine ⟨G, L, ρ, M, _, x, rl, n, h, hx, fun v H1 ⟨d1, G1, L1, M1, e1, r1, n1, h1⟩ => ?_⟩
  exact od G L H G1 L1 M1 H1 v d1 q e1 r1 n1 h1
theorem ca_rd {r : List V → Hp → VK → Prop} {f : List Dt → Ms → DQ → Prop} (od : CaD K r f) (rl : Rl K G L M H) (n : EnD K G L ρ σ) (h : dFn f tc ρ M q x) (hx : XOk K G L H R x) : tCB r (lowA K R tc) σ H (Fin K G L H q) := by
  refine ⟨G, L, ρ, M, _, x, rl, n, h, hx, fun v H1 ⟨d1, G1, L1, M1, e1, r1, n1, h1⟩ => ?_⟩
  exact od G L H G1 L1 M1 H1 v d1 q e1 r1 n1 h1
end
section
variable {X : Cx} {R : St → XK} {a b c : Expr} {ta tb : DE} {pos : Pos}
theorem jv (i : Nat) {x : Str} {pos : Pos} (hN : X.N[i]? = some x := by rfl) (hv : Vis X.env.scope x := by first | exact Or.inl rfl | exact Or.inr (Or.inl rfl) | exact Or.inr (Or.inr rfl)) (hd : (x == ("__debug__" : Str)) = false := by decide)
    (hcd : (x == ("__classdict__" : Str)) = false := by decide) : JE X R (.Name x pos) (dVar i) := .of (pe_var hN hv hd hcd) fun σ H G L ρ M q x r n h hx => by
  unfold dVar at h
  split at h
  · rename_i d e
    obtain ⟨v, e1, h1⟩ := n.ats i d e
    exact ⟨v, e1, d, G, L, M, .refl _ _ _, r, h1, h⟩
  · exact h.elim
theorem j_c {d : Dt} {v : V} {e : Expr} (h : PE X e (tC v)) (hd : ∀ G L, Den X.K G L d v) : JE X R e (dC d) := .of h fun σ H G L ρ M q x r n h hx => ⟨d, G, L, M, .refl _ _ _, r, hd G L, h⟩
theorem jint {i j pos} : JE X R (.Constant (.int i) j pos) (dC (.int i)) := j_c pe_int fun _ _ => rfl
theorem jbl {b j pos} : JE X R (.Constant (.bool b) j pos) (dC (.bl b)) := j_c pe_bl fun _ _ => rfl
theorem jnon {j pos} : JE X R (.Constant .none j pos) (dC .non) := j_c pe_non fun _ _ => rfl
theorem jstr {x j pos} : JE X R (.Constant (.str x) j pos) (dC (.str x)) := j_c pe_str fun _ _ => rfl
theorem j_op {op : Operator} {r : R2} {f : Dt → Dt → Ms → DQ → Prop} (ho : OpR X (binaryOp op) r) (od : OpD X.K r f) (ja : JE X R a ta) (jb : JE X R b tb) : JE X R (.BinOp a op b pos) (dOp f ta tb) :=
  .of (pe_op ho ja jb) fun σ H G L ρ M q x r n h hx => bin_rd od r n h hx
theorem j_un {op : UnaryOp} {r : V → Hp → VK → Prop} {f : Dt → Ms → DQ → Prop} (ho : UnR X (unaryOp op) r) (od : UnD X.K r f) (ja : JE X R a ta) : JE X R (.UnaryOp op a pos) (dUn f ta) :=
  .of (pe_un ho ja) fun σ H G L ρ M q x r n h hx => un_rd od r n h hx
theorem j_cmp {op : CmpOp} {r : R2} {f : Dt → Dt → Ms → DQ → Prop} (ho : OpR X (compareOp op) r) (od : OpD X.K r f) (ja : JE X R a ta) (jb : JE X R b tb) (hm : behindInMarks op b = false) : JE X R (.Compare a [op] [b] pos) (dOp f ta tb) :=
  .of (pe_cmpR ho ja jb hm) fun σ H G L ρ M q x r n h hx => bin_rd od r n h hx
theorem j_ixs {r : R2} {f : Dt → Dt → Ms → DQ → Prop} (hr : IxR X r) (od : OpD X.K r f) (ja : JE X R a ta) (jb : JE X R b tb) (hs : PlainIx b) : JE X R (.Subscript a b pos) (dOp f ta tb) :=
  .of (pe_ix hr ja jb hs) fun σ H G L ρ M q x r n h hx => bin_rd od r n h hx
/-! ### argument lists, displays -/
theorem starC {env : Env} {es : List Expr} {c j p} : starEach (.Constant c j p :: es) env = (false, eval (.Constant c j p) env) :: starEach es env := rfl
theorem starN {env : Env} {es : List Expr} {c p} : starEach (.Name c p :: es) env = (false, eval (.Name c p) env) :: starEach es env := rfl
theorem starB {env : Env} {es : List Expr} {a o b p} : starEach (.BinOp a o b p :: es) env = (false, eval (.BinOp a o b p) env) :: starEach es env := rfl
theorem starF {env : Env} {es : List Expr} {a b c p} : starEach (.Call a b c p :: es) env = (false, eval (.Call a b c p) env) :: starEach es env := rfl
theorem starX {env : Env} {es : List Expr} {a b p} : starEach (.Subscript a b p :: es) env = (false, eval (.Subscript a b p) env) :: starEach es env := rfl
theorem ja_nil : JA X R [] aNil := .of pa_nil fun σ H G L ρ M q x r n h hx => ⟨[], G, L, M, .refl _ _ _, r, rfl, h⟩
theorem ja_cons {e : Expr} {es : List Expr} {te : DE} {t : DA} (ha : JE X R e te) (hr : JA X R es t) (hs : starEach (e :: es) X.env = (false, eval e X.env) :: starEach es X.env := by first | exact starC | exact starN | exact starB | exact starF | exact starX | exact starT | exact starK | exact starU | rfl) : JA X R (e :: es) (aCons te t) :=
  .of (pa_cons ha hr hs) fun σ H G L ρ M q x rl n h hx => by
    refine ⟨G, L, ρ, M, _, x, rl, n, h, hx, fun v H1 ⟨d1, G1, L1, M1, e1, r1, n1, h1⟩ => ?_⟩
    refine ⟨G1, L1, ρ, M1, _, x, r1, n.mono e1, h1, hx.on e1, fun v2 H2 ⟨d2, G2, L2, M2, e2, r2, n2, h2⟩ => ?_⟩
    exact ⟨d1 :: d2, G2, L2, M2, e1.trans e2, r2, ⟨_, _, rfl, Den.mono e2.g e2.l _ _ n1, n2⟩, h2⟩
def dTup (t : DA) : DE := fun ρ M q x => t ρ M (fun ds M1 => ds.length ≤ sizeLine ∧ q (.tup ds) M1) x
def dLst (t : DA) : DE := fun ρ M q x => t ρ M (fun ds M1 => ds.length ≤ sizeLine ∧ q (.lst ds) M1) x
def dLstM (t : DA) : DE := fun ρ M q x => t ρ M (fun ds M1 => ds.length ≤ sizeLine ∧ q (.loc M1.length) (M1 ++ [.lst ds])) x
theorem fin_new {K : PySem.W.Frag} {G0 : Hp} {L0 : List Addr} {H0 G : Hp} {L : List Addr} {M : Ms} {H : Hp} {p : Addr} {o : HO} {d : Dt} {q : DQ} (e : Ex G0 L0 H0 G L H) (r : Rl K G L M H) (hp : H p = none) (hd : Den K (upd G p o) L d (.ref p)) (h : q d M) : Fin K G0 L0 H0 q (.ref p) (upd H p o) :=
  ⟨d, upd G p o, L, M, e.trans (r.exG hp), r.newG hp, hd, h⟩
theorem den_tup {K : PySem.W.Frag} {G : Hp} {L : List Addr} {M : Ms} {H : Hp} {p : Addr} {ds : List Dt} {vs : List V} (r : Rl K G L M H) (hp : H p = none) (h : DenL K G L ds vs) : Den K (upd G p (.tup vs)) L (.tup ds) (.ref p) :=
  ⟨p, vs, rfl, upd_same, DenL.mono (r.exG hp).g (.refl _) _ _ h⟩
theorem den_lst {K : PySem.W.Frag} {G : Hp} {L : List Addr} {M : Ms} {H : Hp} {p : Addr} {ds : List Dt} {vs : List V} (r : Rl K G L M H) (hp : H p = none) (h : DenL K G L ds vs) : Den K (upd G p (.lst vs)) L (.lst ds) (.ref p) :=
  ⟨p, vs, rfl, upd_same, DenL.mono (r.exG hp).g (.refl _) _ _ h⟩
theorem fin_loc {K : PySem.W.Frag} {G0 : Hp} {L0 : List Addr} {H0 G : Hp} {L : List Addr} {M : Ms} {H : Hp} {p : Addr} {q : DQ} {ds : List Dt} {vs : List V} (e : Ex G0 L0 H0 G L H) (r : Rl K G L M H) (hp : H p = none) (hd : DenL K G L ds vs) (h : q (.loc M.length) (M ++ [.lst ds])) : Fin K G0 L0 H0 q (.ref p) (upd H p (.lst vs)) :=
  ⟨.loc M.length, G, L ++ [p], M ++ [.lst ds], e.trans (r.exM hp), r.newM (m := .lst ds) hp ⟨vs, upd_same, DenL.mono (.refl _) ⟨[p], rfl⟩ _ _ hd⟩, ⟨p, rfl, by rw [← r.len, List.getElem?_append_right (Nat.le_refl _)]; simp⟩, h⟩
variable {es : List Expr} {t : DA}
theorem j_tup {x1} (h : JA X R es t) : JE X R (.Tuple es x1 pos) (dTup t) := .of (pe_tup h) fun σ H G L ρ M q x rl n h hx => by
  refine ⟨G, L, ρ, M, _, x, rl, n, h, hx, fun v H1 ⟨d1, G1, L1, M1, e1, r1, n1, h1⟩ => ⟨by rw [← n1.length]; exact h1.1, fun p hp => ?_⟩⟩
  exact fin_new e1 r1 hp (den_tup r1 hp n1) h1.2
theorem j_lst (h : JA X R es t) : JE X R (.List es pos) (dLst t) := .of (pe_lst h) fun σ H G L ρ M q x rl n h hx => by
  refine ⟨G, L, ρ, M, _, x, rl, n, h, hx, fun v H1 ⟨d1, G1, L1, M1, e1, r1, n1, h1⟩ => ⟨by rw [← n1.length]; exact h1.1, fun p hp => ?_⟩⟩
  exact fin_new e1 r1 hp (den_lst r1 hp n1) h1.2
theorem j_lstM (h : JA X R es t) : JE X R (.List es pos) (dLstM t) := .of (pe_lst h) fun σ H G L ρ M q x rl n h hx => by
  refine ⟨G, L, ρ, M, _, x, rl, n, h, hx, fun v H1 ⟨d1, G1, L1, M1, e1, r1, n1, h1⟩ => ⟨by rw [← n1.length]; exact h1.1, fun p hp => ?_⟩⟩
  exact fin_loc e1 r1 hp n1 h1.2
/-! ### tests -/
def tstD (t : DE) : DT := fun ρ M q x => t ρ M (fun d M1 => match d with
  | .bl b => q b M1
  | _ => False) x
def andT (t u : DT) : DT := fun ρ M q x => t ρ M (fun c M1 => (c = true → u ρ M1 q x) ∧ (c = false → q false M1)) x
def orT (t u : DT) : DT := fun ρ M q x => t ρ M (fun c M1 => (c = true → q true M1) ∧ (c = false → u ρ M1 q x)) x
def notT (t : DT) : DT := fun ρ M q x => t ρ M (fun c M1 => q (!c) M1) x
theorem tst_rd {K : PySem.W.Frag} {t : DE} {σ : St} {H G : Hp} {L : List Addr} {ρ : En} {M : Ms} {q : Bool → Ms → Prop} {x : DX} (rl : Rl K G L M H) (n : EnD K G L ρ σ) (h : tstD t ρ M q x) (hx : XOk K G L H R x) : tB (lowE K R t) σ H (FinT K G L H q) := by
  refine ⟨G, L, ρ, M, _, x, rl, n, h, hx, fun v H1 ⟨d1, G1, L1, M1, e1, r1, n1, h1⟩ => ?_⟩
  (try dsimp only at h1)
  split at h1
  · rename_i b
    exact ⟨b, n1, G1, L1, M1, e1, r1, h1⟩
  · exact h1.elim
theorem jt_val {e : Expr} {t : DE} (h : JE X R e t) (he : ∀ whole, isTrue e X.env whole = (do let v ← whole; standAt e.pos; holding [v] (truthy v)) := by intro _; rfl) : JT X R e (tstD t) :=
  .of (pt_val h he) fun σ H G L ρ M q x rl n h hx => tst_rd rl n h hx
theorem jt_cmp {op : CmpOp} {r : R2} {f : Dt → Dt → Ms → DQ → Prop} (ho : OpR X (compareOp op) r) (od : OpD X.K r f) (ja : JE X R a ta) (jb : JE X R b tb) (hm : behindInMarks op b = false) : JT X R (.Compare a [op] [b] pos) (tstD (dOp f ta tb)) :=
  .of (pt_cmpR ho ja jb hm) fun σ H G L ρ M q x rl n h hx => by
    have h : dOp f ta tb ρ M (fun d M1 => match d with | .bl b => q b M1 | _ => False) x := h
    refine ⟨G, L, ρ, M, _, x, rl, n, h, hx, fun v H1 ⟨d1, G1, L1, M1, e1, r1, n1, h1⟩ => ?_⟩
    refine ⟨G1, L1, ρ, M1, _, x, r1, n.mono e1, h1, hx.on e1, fun v2 H2 ⟨d2, G2, L2, M2, e2, r2, n2, h2⟩ => ?_⟩
    have := od G L H G2 L2 M2 H2 v v2 d1 d2 _ (e1.trans e2) r2 (Den.mono e2.g e2.l _ _ n1) n2 h2
    have e : (fun x H' => ∃ k, x = V.bl k ∧ FinT X.K G L H q k H') = Fin X.K G L H (fun d M1 => match d with | .bl b => q b M1 | _ => False) := by
      funext y H'
      apply propext
      constructor
      · rintro ⟨k, rfl, G3, L3, M3, e3, r3, h3⟩
        exact ⟨.bl k, G3, L3, M3, e3, r3, rfl, h3⟩
      · rintro ⟨d, G3, L3, M3, e3, r3, n3, h3⟩
        split at h3
        · rename_i k
          exact ⟨k, n3, G3, L3, M3, e3, r3, h3⟩
        · exact h3.elim
    rw [e]
    exact this
theorem JW.jt {e : Expr} {t : DT} (h : JW X R e t) : JT X R e t := h _
variable {t1 t2 : DT} {rest : List Expr}
theorem jw_or1 (ha : JT X R a t1) : JW X R (.BoolOp .Or [a] pos) t1 := pw_or1 ha
theorem jw_or (ha : JT X R a t1) (hb : JW X R (.BoolOp .Or (b :: rest) pos) t2) : JW X R (.BoolOp .Or (a :: b :: rest) pos) (orT t1 t2) := .of (pw_or ha hb) fun σ H G L ρ M q x rl n h hx => by
  refine ⟨G, L, ρ, M, _, x, rl, n, h, hx, fun c H1 ⟨G1, L1, M1, e1, r1, h1⟩ => ?_⟩
  cases c with
  | true => exact iteT ⟨G1, L1, M1, e1, r1, h1.1 rfl⟩
  | false => exact iteF ⟨G1, L1, ρ, M1, _, x, r1, n.mono e1, h1.2 rfl, hx.on e1, fun b H2 f => FinT.back e1 f⟩
theorem jt_not (ha : JT X R a t1) : JT X R (.UnaryOp .Not a pos) (notT t1) := .of (pt_not ha) fun σ H G L ρ M q x rl n h hx =>
  ⟨G, L, ρ, M, _, x, rl, n, h, hx, fun _ _ ⟨G, L, M, e, r, h⟩ => ⟨G, L, M, e, r, h⟩⟩
/-! ### and, or, not as values (bools) -/
def dAnd (t u : DE) : DE := fun ρ M q x => t ρ M (fun d M1 => match d with
  | .bl c => (c = true → u ρ M1 q x) ∧ (c = false → q (.bl false) M1)
  | _ => False) x
def dOr (t u : DE) : DE := fun ρ M q x => t ρ M (fun d M1 => match d with
  | .bl c => (c = true → q (.bl true) M1) ∧ (c = false → u ρ M1 q x)
  | _ => False) x
def dNot (t : DE) : DE := fun ρ M q x => t ρ M (fun d M1 => match d with
  | .bl c => q (.bl (!c)) M1
  | _ => False) x
def dIf (t : DT) (u v : DE) : DE := fun ρ M q x => t ρ M (fun c M1 => (c = true → u ρ M1 q x) ∧ (c = false → v ρ M1 q x)) x
theorem je_one {op} {t : DE} (h : JE X R a t) : JE X R (.BoolOp op [a] pos) t := pe_one h
theorem je_and (ha : JE X R a ta) (hb : JE X R (.BoolOp .And (b :: rest) pos) tb) : JE X R (.BoolOp .And (a :: b :: rest) pos) (dAnd ta tb) := .of (pe_and ha hb) fun σ H G L ρ M q x rl n h hx => by
  refine ⟨G, L, ρ, M, _, x, rl, n, h, hx, fun v H1 ⟨d1, G1, L1, M1, e1, r1, n1, h1⟩ => ?_⟩
  (try dsimp only at h1)
  split at h1
  · rename_i c
    refine ⟨c, n1, ?_⟩
    cases c with
    | true => exact iteT ⟨G1, L1, ρ, M1, _, x, r1, n.mono e1, h1.1 rfl, hx.on e1, fun b H2 f => Fin.back e1 f⟩
    | false => exact iteF ⟨.bl false, G1, L1, M1, e1, r1, rfl, h1.2 rfl⟩
  · exact h1.elim
end
/-! ### statements -/
def sNext : DS := fun Dn ρ M => Dn.nx ρ M
def sSeq (t u : DS) : DS := fun Dn ρ M => t { Dn with nx := u Dn } ρ M
def sIf (c : DT) (t u : DS) : DS := fun Dn ρ M => c ρ M (fun b M1 => (b = true → t Dn ρ M1) ∧ (b = false → u Dn ρ M1)) Dn.x
def sRet (t : DE) : DS := fun Dn ρ M => t ρ M Dn.rt Dn.x
def sSet (i : Nat) (t : DE) : DS := fun Dn ρ M => t ρ M (fun d M1 => Dn.nx (ρ.set i (some d)) M1) Dn.x
def sDrop (t : DE) : DS := fun Dn ρ M => t ρ M (fun _ M1 => Dn.nx ρ M1) Dn.x
/-- what the proof says of the state here -/
def sCut (t : DS) : DS := fun Dn ρ M => ∃ J : En → Ms → Prop, t { Dn with nx := J } ρ M ∧ ∀ ρ' M', J ρ' M' → Dn.nx ρ' M'
section
variable {X : Cx} {R : St → XK} {st : Stmt} {rest : List Stmt} {t u : DS} {e : Expr} {te : DE} {pos : Pos}
theorem jss_nil : JSs X R [] sNext := .of pss_nil fun σ H G L ρ M Dn rl n h hx => ⟨ρ, G, L, M, .refl _ _ _, rl, n, h⟩
theorem jss_one (h1 : JS X R st t) : JSs X R [st] t := pss_one h1
theorem jss_cons (h1 : JS X R st t) (h2 : JSs X R rest u) : JSs X R (st :: rest) (sSeq t u) := .of (pss_cons h1 h2) fun σ H G L ρ M Dn rl n h hx => by
  refine ⟨G, L, ρ, M, _, rl, n, h, hx, ⟨fun σ1 H1 ⟨ρ1, G1, L1, M1, e1, r1, n1, h1⟩ => ?_, fun _ _ f => f, fun _ _ f => f, fun _ _ f => f⟩⟩
  exact ⟨G1, L1, ρ1, M1, Dn, r1, n1, h1, hx.on e1, FinS.back e1⟩
theorem js_continue : JS X R (.Continue pos) (fun Dn ρ M => Dn.ct ρ M) := .of ps_continue fun σ H G L ρ M Dn rl n h hx => ⟨ρ, G, L, M, .refl _ _ _, rl, n, h⟩
theorem js_ret (he : JE X R e te) : JS X R (.Return (some e) pos) (sRet te) := .of (ps_ret he) fun σ H G L ρ M Dn rl n h hx => ⟨G, L, ρ, M, _, _, rl, n, h, hx, fun _ _ f => f⟩
theorem js_expr (he : JE X R e te) (hs : swapsWith e none pos.line X.env = pure false := by rfl) : JS X R (.Expr e pos) (sDrop te) := .of (ps_expr he hs) fun σ H G L ρ M Dn rl n h hx => by
  refine ⟨G, L, ρ, M, _, _, rl, n, h, hx, fun v H1 ⟨d1, G1, L1, M1, e1, r1, n1, h1⟩ => ⟨ρ, G1, L1, M1, e1, r1, n.mono e1, h1⟩⟩
theorem js_if {c : Expr} {a b : List Stmt} {tc : DT} (hc : JT X R c tc) (ha : JSs X R a t) (hb : JSs X R b u) : JS X R (.If c a b pos) (sIf tc t u) := .of (ps_if hc ha hb) fun σ H G L ρ M Dn rl n h hx => by
  refine ⟨G, L, ρ, M, _, _, rl, n, h, hx, fun c H1 ⟨G1, L1, M1, e1, r1, h1⟩ => ?_⟩
  cases c with
  | true => exact iteT ⟨G1, L1, ρ, M1, Dn, r1, n.mono e1, h1.1 rfl, hx.on e1, FinS.back e1⟩
  | false => exact iteF ⟨G1, L1, ρ, M1, Dn, r1, n.mono e1, h1.2 rfl, hx.on e1, FinS.back e1⟩
theorem js_set {i : Nat} {x : Str} {pos' : Pos} (hN : X.N.Nodup) (hi : X.N[i]? = some x) (hx : Loc X.env.scope x) (he : JE X R e te) (hs : swapsWith e (some (.Name x pos')) pos.line X.env = pure false := by rfl) (hf : X.fn x = true ∨ X.env.scope.names.lookup x = some .local := by first | exact .inl rfl | exact .inr rfl | assumption) :
    JS X R (.Assign [.Name x pos'] e pos) (sSet i te) := .of (ps_set hN hi hx he hs hf) fun σ H G L ρ M Dn rl n h hx => by
  refine ⟨G, L, ρ, M, _, _, rl, n, h, hx, fun v H1 ⟨d1, G1, L1, M1, e1, r1, n1, h1⟩ => ⟨_, G1, L1, M1, e1, r1, (n.mono e1).set i n1, h1⟩⟩
theorem js_cut (h : JS X R st t) : JS X R st (sCut t) := .of h fun σ H G L ρ M Dn rl n h hx => by
  obtain ⟨J, h1, h2⟩ := h
  refine ⟨G, L, ρ, M, _, rl, n, h1, hx, ⟨fun σ1 H1 ⟨ρ1, G1, L1, M1, e1, r1, n1, h1⟩ => ⟨ρ1, G1, L1, M1, e1, r1, n1, h2 _ _ h1⟩, fun _ _ f => f, fun _ _ f => f, fun _ _ f => f⟩⟩
end
end L2

set_option Elab.async false
set_option linter.all false
set_option maxRecDepth 100000
set_option maxHeartbeats 4000000
namespace L2
open PySem PySem.Spec PyProof.Rows
/-! ### what a def promises, by data -/
abbrev DXF := Addr → List (Str × Dt) → Ms → Prop
abbrev DF := List Dt → Ms → DQ → DXF → Prop
inductive spD (K : PySem.W.Frag) (T : DF) (vs : List V) (H : Hp) (Q : VK) (E : XK) : Prop
  | mk (G : Hp) (L : List Addr) (ds : List Dt) (M : Ms) (q : DQ) (x : DXF) (r : Rl K G L M H) (n : DenL K G L ds vs) (h : T ds M q x) (hQ : ∀ v H1, Fin K G L H q v H1 → Q v H1) (hE : ∀ C fs M1 G1 L1 H1 od, x C fs M1 → Ex G L H G1 L1 H1 → Rl K G1 L1 M1 H1 → xRel K G1 L1 H1 fs od → E (.ref C) od H1)
def startD (N : List Str) (ds : List Dt) : En := ds.map some ++ List.replicate (N.length - ds.length) none
theorem start_en {K : PySem.W.Frag} {G : Hp} {L : List Addr} {N : List Str} {ds : List Dt} {vs : List V} (h : DenL K G L ds vs) : EnD K G L (startD N ds) (start N vs) := by
  have hl := h.length
  refine ⟨by unfold startD start; simp [hl], fun i d e => ?_⟩
  unfold startD at e
  unfold start
  by_cases hi : i < ds.length
  · rw [List.getElem?_append_left (by simpa using hi), List.getElem?_map] at e
    rw [List.getElem?_append_left (by simpa [← hl] using hi), List.getElem?_map]
    cases q : ds[i]? with
    | none => rw [q] at e; cases e
    | some d' =>
      rw [q] at e
      cases e
      obtain ⟨v, e1, h1⟩ := h.get q
      exact ⟨v, by rw [e1]; rfl, h1⟩
  · rw [List.getElem?_append_right (by simpa using Nat.le_of_not_lt hi), List.getElem?_replicate] at e
    split at e <;> cases e
section
variable {P : Program} {w : World} {K : PySem.W.Frag} {mg : Str → Option Value} {base : Heap}
theorem Fun.okD {x qual : Str} {st : Stmt} {f : Addr} {fd : FuncData} {N ps : List Str} {k : Nat} {T : DF} (F : Fun K x qual st f fd) (S : FnScope N ps (defScope st)) (len : ∀ ds M q x, T ds M q x → ds.length = ps.length)
    (hbody : ∀ (cdv : Value) (A : Around) (outer : List Env) (s : Shared) (H : Hp) (E : XK), Room k (A.deeper (envOfC qual (defScope st) s.heap.objs.size f cdv)) →
      ∃ t, JSs (cxOf (CX1 P w) P w K mg base N qual (defScope st) f cdv A outer s H E) (fun _ => E) (defBody st) t ∧ ∀ ds M q x, T ds M q x → t { nx := fun _ M' => q .non M', rt := q, x := fun _ => x } (startD N ds) M) :
    FnOk P w K mg base (CX1 P w) (k + 1) f fd ps (spD K T) := by
  refine F.okX S (fun vs H Q E h => ?_) (fun cdv A outer s H vs Q E hr h => ?_)
  · obtain ⟨G, L, ds, M, q, x, rl, n, hT, _⟩ := h
    rw [← n.length]; exact len _ _ _ _ hT
  · obtain ⟨t, j, ht⟩ := hbody cdv A outer s H E hr
    obtain ⟨G, L, ds, M, q, x, rl, n, hT, hQ, hE⟩ := h
    refine ⟨_, j, G, L, startD N ds, M, _, rl, start_en n, ht ds M q x hT, fun σ ρ C fs M' G' L' H' od hx e r _ y => hE C fs M' G' L' H' od hx e r y, ⟨fun σ' H' ⟨ρ', G', L', M', e, r, _, h⟩ => hQ _ _ ⟨.non, G', L', M', e, r, rfl, h⟩, fun v H' f => hQ v H' f, fun _ _ ⟨_, _, _, _, _, _, _, h⟩ => h.elim, fun _ _ ⟨_, _, _, _, _, _, _, h⟩ => h.elim⟩⟩
/-- a def that is called: its promise, its parameters, its name -/
structure CalD (P : Program) (w : World) (K : PySem.W.Frag) (mg : Str → Option Value) (base : Heap) (k : Nat) (x : Str) (ps : List Str) (T : DF) (f : Addr) (fd : FuncData) : Prop where
  ok : FnOk P w K mg base (CX1 P w) k f fd ps (spD K T)
  b : Binds K fd ps []
  m : mg x = some (.ref f)
  kp : PySem.W.keepIn K (.ref f) = true
end
/-! ### calls -/
def dCall (T : DF) (t : DA) : DE := fun ρ M q x => t ρ M (fun ds M1 => T ds M1 q (fun C fs M' => x ρ C fs M')) x
section
variable {X : Cx} {R : St → XK} {T : DF} {k k' : Nat} {f : Addr} {fd : FuncData} {ps : List Str} {x : Str} {p pos : Pos} {e : Expr} {es : List Expr} {t : DA}
theorem j_fn (C : CalD X.prog X.w X.K X.mg X.base k x ps T f fd) (hr : Room k' X.A) (hx : PassesR (CX1 X.prog X.w) X R) (ha : JA X R (e :: es) t) (hk : k ≤ k' := by decide) (hg : Gl X x := by rfl) (hdb : (x == ("__debug__" : Str)) = false := by decide)
    (he : starEach (e :: es) X.env = (false, eval e X.env) :: starEach es X.env := by rfl) (hpl : (backTo pos (starEach es X.env)).any (·.1) = false := by rfl) : JE X R (.Call (.Name x p) (e :: es) [] pos) (dCall T t) :=
  .of (pe_callR C.ok (hr.mono hk) hg C.m C.kp C.b .nil hx ha hdb he hpl) fun σ H G L ρ M q x rl n h hx => by
    refine ⟨G, L, ρ, M, _, x, rl, n, h, hx, fun vs H1 ⟨ds, G1, L1, M1, e1, r1, n1, h1⟩ => ?_⟩
    show spD X.K T (vs ++ []) H1 _ _
    rw [List.append_nil]
    exact ⟨G1, L1, ds, M1, q, _, r1, n1, h1, fun v H' f => Fin.back e1 f, fun C fs M' G' L' H' od hq e' r' y => hx σ ρ C fs M' G' L' H' od hq (e1.trans e') r' (n.mono (e1.trans e')) y⟩
end
/-! ### raise -/
def sRaise (C : Addr) (t : DA) : DS := fun Dn ρ M => t ρ M (fun ds M1 => ds.length ≤ sizeLine ∧ Dn.x ρ C [] M1) Dn.x
section
variable {X : Cx} {R : St → XK} {C : Addr} {t : DA} {Bn newId initId : String} {bmB : List Value} {x : Str} {np cpos pos : Pos} {e : Expr} {es : List Expr}
theorem js_raise (hR : Raises X R) (F : ExcBaseFacts Bn newId initId bmB) (c : ExcCls X.K C bmB newId) (hm : X.mg x = some (.ref C)) (ha : JA X R (e :: es) t) (hc : X.calm = true := by rfl) (hex : X.ex = [] := by rfl) (hg : Gl X x := by rfl)
    (hdb : (x == ("__debug__" : Str)) = false := by decide) (he : starEach (e :: es) X.env = (false, eval e X.env) :: starEach es X.env := by rfl) (hpl : (backTo cpos (starEach es X.env)).any (·.1) = false := by rfl) :
    JS X R (.Raise (some (.Call (.Name x np) (e :: es) [] cpos)) none pos) (sRaise C t) := .of (ps_raise hR hc hex F c hg hm ha hdb he hpl) fun σ H G L ρ M Dn rl n h hx => by
  refine ⟨G, L, ρ, M, _, _, rl, n, h, hx, fun vs H1 ⟨ds, G1, L1, M1, e1, r1, n1, h1⟩ => ⟨by rw [← n1.length]; exact h1.1, ?_⟩⟩
  exact hx σ ρ C [] M1 G1 L1 H1 none h1.2 e1 r1 (n.mono e1) (.inl ⟨rfl, rfl⟩)
end
/-! ### what is walked -/
structure Yl (K : PySem.W.Frag) (J : It) (xs : List Dt) (G0 : Hp) (L0 : List Addr) : Prop where
  go : ∀ (i : Nat) G L M H (d : Dt), Same G0 G → Pre L0 L → Rl K G L M H → xs[i]? = some d → J.go i H ∧ ∀ v H', J.yld i H v H' → ∃ G', Ex G L H G' L H' ∧ Rl K G' L M H' ∧ Den K G' L d v
  stop : ∀ (i : Nat) G L M H, Same G0 G → Pre L0 L → Rl K G L M H → xs.length ≤ i → J.stop i H
inductive FinJ (K : PySem.W.Frag) (G0 : Hp) (L0 : List Addr) (H0 : Hp) (q : List Dt → Ms → Prop) (J : It) (H : Hp) : Prop
  | mk (xs : List Dt) (G : Hp) (L : List Addr) (M : Ms) (e : Ex G0 L0 H0 G L H) (r : Rl K G L M H) (y : Yl K J xs G L) (h : q xs M)
inductive lowI (K : PySem.W.Frag) (R : St → XK) (t : DA) (σ : St) (H : Hp) (Q : It → Hp → Prop) : Prop
  | mk (G : Hp) (L : List Addr) (ρ : En) (M : Ms) (q : List Dt → Ms → Prop) (x : DX) (r : Rl K G L M H) (n : EnD K G L ρ σ) (h : t ρ M q x) (hx : XOk K G L H R x) (hQ : ∀ J H1, FinJ K G L H q J H1 → Q J H1)
def JI (X : Cx) (R : St → XK) (tg iter : Expr) (t : DA) : Prop := PI X tg iter (lowI X.K R t)
theorem PIE.imp {X : Cx} {pins : List (Addr × Obj)} {σ : St} {tg : Expr} {R R' : It → Hp → Prop} (hR : ∀ J H, R J H → R' J H) {v : Value} {s : Shared} (h : PIE X pins σ tg R v s) : PIE X pins σ tg R' v s := by
  obtain ⟨it, fp, tn, J, H', a, b, c, d, e, f⟩ := h
  exact ⟨it, fp, tn, J, H', a, b, c, d, e, hR J H' f⟩
theorem yl_list {K : PySem.W.Frag} {G : Hp} {L : List Addr} {a : Addr} {ds : List Dt} {vs : List V} (h : ∀ G' : Hp, Same G G' → SqL K G' a vs) (n : DenL K G L ds vs) : Yl K (Itl K a) ds G L where
  go := fun i G1 L1 M1 H1 d g l r e => by
    obtain ⟨v, e1, n1⟩ := n.get e
    have hs := h H1 (g.trans r.sub)
    exact ⟨⟨vs, v, hs, e1⟩, fun v' H' ⟨eH, y⟩ => by
      subst eH
      have e2 := y vs hs
      rw [e1] at e2; cases e2
      exact ⟨G1, .refl _ _ _, r, Den.mono g l _ _ n1⟩⟩
  stop := fun i G1 L1 M1 H1 g l r e => ⟨vs, h H1 (g.trans r.sub), by rw [← n.length]; exact e⟩
theorem yl_tup {K : PySem.W.Frag} {G : Hp} {L : List Addr} {a : Addr} {ds : List Dt} {vs : List V} (h : ∀ G' : Hp, Same G G' → SqT K G' a vs) (n : DenL K G L ds vs) : Yl K (Itt K a) ds G L where
  go := fun i G1 L1 M1 H1 d g l r e => by
    obtain ⟨v, e1, n1⟩ := n.get e
    have hs := h H1 (g.trans r.sub)
    exact ⟨⟨vs, v, hs, e1⟩, fun v' H' ⟨eH, y⟩ => by
      subst eH
      have e2 := y vs hs
      rw [e1] at e2; cases e2
      exact ⟨G1, .refl _ _ _, r, Den.mono g l _ _ n1⟩⟩
  stop := fun i G1 L1 M1 H1 g l r e => ⟨vs, h H1 (g.trans r.sub), by rw [← n.length]; exact e⟩
def rngD (lo : Int) (n : Nat) : List Dt := (List.range n).map fun k : Nat => Dt.int (lo + (k : Int))
theorem yl_rng {K : PySem.W.Frag} {G : Hp} {L : List Addr} {lo : Int} {n : Nat} : Yl K (Itr lo n) (rngD lo n) G L where
  go := fun i G1 L1 M1 H1 d g l r e => by
    unfold rngD at e
    rw [List.getElem?_map] at e
    have hi : i < n := by
      cases q : (List.range n)[i]? with
      | none => rw [q] at e; cases e
      | some j =>
        have := (List.getElem?_eq_some_iff.mp q).1
        rwa [List.length_range] at this
    rw [List.getElem?_range hi] at e
    cases e
    exact ⟨hi, fun v' H' ⟨eH, y⟩ => by subst eH y; exact ⟨G1, .refl _ _ _, r, rfl⟩⟩
  stop := fun i G1 L1 M1 H1 g l r e => by show n ≤ i; unfold rngD at e; simpa using e
section
variable {X : Cx} {R : St → XK} {tg iter : Expr}
theorem JI.of {wi : TI} {t : DA} (h : PI X tg iter wi) (hw : ∀ σ H G L ρ M q x, Rl X.K G L M H → EnD X.K G L ρ σ → t ρ M q x → XOk X.K G L H R x → wi σ H (FinJ X.K G L H q)) : JI X R tg iter t := by
  intro pins s σ H Q I ⟨G, L, ρ, M, q, x, r, n, ht, hx, hQ⟩
  exact thn (h pins s σ H _ I (hw σ H G L ρ M q x r n ht hx)) fun u s1 f => thn f fun u2 s2 f2 => PIE.imp hQ f2
def iRng (t : DA) : DA := fun ρ M q x => t ρ M (fun ds M1 => match ds with
  | [.int j] => (-(2 ^ 62) ≤ j ∧ j < 2 ^ 62) ∧ q (rngD 0 j.toNat) M1
  | _ => False) x
theorem ji_range {a : Expr} {t : DA} {p pos : Pos} (hm : X.mg "range" = none) (ha : JA X R [a] t) (hg : Gl X "range" := by rfl) (hs : starEach [a] X.env = [(false, eval a X.env)] := by rfl) : JI X R tg (.Call (.Name "range" p) [a] [] pos) (iRng t) :=
  .of (pi_range1 hg hm ha hs) fun σ H G L ρ M q x rl n h hx => by
    refine ⟨G, L, ρ, M, _, x, rl, n, h, hx, fun vs H1 ⟨ds, G1, L1, M1, e1, r1, n1, h1⟩ => ?_⟩
    (try dsimp only at h1)
    split at h1
    · rename_i j
      obtain ⟨v, rfl, n2⟩ := denL_one n1
      have n2 : v = .int j := n2
      subst n2
      exact ⟨j, rfl, h1.1.1, h1.1.2, _, G1, L1, M1, e1, r1, yl_rng, h1.2⟩
    · exact h1.elim
def iRng2D (t : DA) : DA := fun ρ M q x => t ρ M (fun ds M1 => match ds with
  | [.int i, .int j] => (-(2 ^ 62) ≤ i ∧ i < 2 ^ 62 ∧ -(2 ^ 62) ≤ j ∧ j < 2 ^ 62) ∧ q (rngD i (j - i).toNat) M1
  | _ => False) x
theorem ji_range2 {a b : Expr} {t : DA} {p pos : Pos} (hm : X.mg "range" = none) (ha : JA X R [a, b] t) (hg : Gl X "range" := by rfl) (hs : starEach [a, b] X.env = [(false, eval a X.env), (false, eval b X.env)] := by rfl) (hs2 : starEach [b] X.env = [(false, eval b X.env)] := by rfl) :
    JI X R tg (.Call (.Name "range" p) [a, b] [] pos) (iRng2D t) :=
  .of (pi_range2 hg hm ha hs hs2) fun σ H G L ρ M q x rl n h hx => by
    refine ⟨G, L, ρ, M, _, x, rl, n, h, hx, fun vs H1 ⟨ds, G1, L1, M1, e1, r1, n1, h1⟩ => ?_⟩
    (try dsimp only at h1)
    split at h1
    · rename_i i j
      obtain ⟨v, u, rfl, n3, n2⟩ := denL_two n1
      have n3 : v = .int i := n3
      have n2 : u = .int j := n2
      subst n3 n2
      exact ⟨i, j, rfl, h1.1, _, G1, L1, M1, e1, r1, yl_rng, h1.2⟩
    · exact h1.elim
end
/-! ### for -/
def GD (K : PySem.W.Frag) (gg : TG) (g : Dt → En → (En → Prop) → Prop) : Prop :=
  ∀ G L M H d v ρ σ (k : En → Prop) (Q : St → Hp → Prop), Rl K G L M H → Den K G L d v → EnD K G L ρ σ → g d ρ k → (∀ ρ' σ', EnD K G L ρ' σ' → k ρ' → Q σ' H) → gg v σ H Q
def gN (i : Nat) : Dt → En → (En → Prop) → Prop := fun d ρ k => k (ρ.set i (some d))
theorem gd_name {K : PySem.W.Frag} {i : Nat} : GD K (gName i) (gN i) := fun G L M H d v ρ σ k Q rl n en h hQ => hQ _ _ (en.set i n) h
def g2 (i j : Nat) : Dt → En → (En → Prop) → Prop := fun d ρ k => match d with
  | .tup [a, b] => k ((ρ.set i (some a)).set j (some b))
  | _ => False
theorem gd_two {K : PySem.W.Frag} {i j : Nat} : GD K (gTup K 2 (gCons (gName i) (gCons (gName j) gNil))) (g2 i j) := fun G L M H d v ρ σ k Q rl n en h hQ => by
  unfold g2 at h
  split at h
  · rename_i a b
    obtain ⟨p, vs, rfl, e, n⟩ := n
    obtain ⟨v1, v2, rfl, n1, n2⟩ := denL_two n
    exact ⟨p, _, rfl, .inl (.inl (rl.sub _ _ e)), rfl, v1, _, rfl, v2, _, rfl, rfl, hQ _ _ ((en.set i n1).set j n2) h⟩
  · exact h.elim
def forD (g : Dt → En → (En → Prop) → Prop) (tb : DS) (Dn : DEnds) : List Dt → En → Ms → Prop
  | [], ρ, M => Dn.nx ρ M
  | x :: xs, ρ, M => g x ρ fun ρ' => tb { Dn with nx := forD g tb Dn xs, ct := forD g tb Dn xs, bk := Dn.nx } ρ' M
def sFor (ti : DA) (g : Dt → En → (En → Prop) → Prop) (tb : DS) : DS := fun Dn ρ M => ti ρ M (fun xs M1 => forD g tb Dn xs ρ M1) Dn.x
section
variable {X : Cx} {R : St → XK} {tg iter : Expr} {body : List Stmt} {ti : DA} {gg : TG} {g : Dt → En → (En → Prop) → Prop} {tb : DS} {pos : Pos}
theorem js_for (hi : JI X R tg iter ti) (hg : PG X tg gg) (gd : GD X.K gg g) (hb : JSs X R body tb) (hp : PassesOwn (model X.prog X.w) X.A X.env X.xe := by first | exact PassesOwn.never | exact PassesOwn.leaving) (hc : X.calm = true := by rfl) (hs : ∀ x, foldedSetIterable iter X.env x = pure x := by intro _; rfl) :
    JS X R (.For tg iter body [] pos) (sFor ti g tb) := .of (ps_for hp hc hi hg hb hs) fun σ H G L ρ M Dn rl n h hx => by
  refine ⟨G, L, ρ, M, _, _, rl, n, h, hx, fun J H1 ⟨xs, G1, L1, M1, e1, r1, y, h1⟩ => ?_⟩
  refine ⟨fun i m σ' H' => m + i = xs.length ∧ FinN X.K G1 L1 H1 (fun ρ' M' => forD g tb Dn (xs.drop i) ρ' M') σ' H', ⟨xs.length, rfl, ρ, G1, L1, M1, .refl _ _ _, r1, n.mono e1, by rw [List.drop_zero]; exact h1⟩, ?_⟩
  rintro i m σ' H' ⟨hm, ρ', G', L', M', e', r', n', h'⟩
  by_cases hi : i < xs.length
  · right
    have hd : xs[i]? = some xs[i] := List.getElem?_eq_getElem hi
    obtain ⟨go, yl⟩ := y.go i G' L' M' H' _ e'.g e'.l r' hd
    rw [List.drop_eq_getElem_cons hi] at h'
    refine ⟨go, FinN X.K G1 L1 H1 (fun ρ' M' => forD g tb Dn (xs.drop (i + 1)) ρ' M'), fun σ2 H2 f => ⟨m - 1, by omega, by omega, f⟩, fun v H2 hy => ?_⟩
    obtain ⟨G2, e2, r2, n2⟩ := yl v H2 hy
    refine gd G2 L' M' H2 _ v ρ' σ' _ _ r2 n2 (n'.mono e2) h' fun ρ3 σ3 n3 h3 => ?_
    refine ⟨G2, L', ρ3, M', _, r2, n3, h3, hx.on (e1.trans (e'.trans e2)), ⟨fun _ _ f => FinN.back (e'.trans e2) f, fun _ _ f => Fin.back (e1.trans (e'.trans e2)) f, fun _ _ f => FinN.back (e1.trans (e'.trans e2)) f, fun _ _ f => FinN.back (e'.trans e2) f⟩⟩
  · left
    refine ⟨y.stop i G' L' M' H' e'.g e'.l r' (by omega), ρ', G', L', M', e1.trans e', r', n', ?_⟩
    rw [List.drop_eq_nil_of_le (by omega)] at h'
    exact h'
end
/-! ### comprehensions -/
def capD (caps : List Nat) (ρ : En) : En := caps.map fun i => (ρ[i]?).join
theorem cap_en {K : PySem.W.Frag} {G : Hp} {L : List Addr} {ρ : En} {σ : St} (h : EnD K G L ρ σ) (caps : List Nat) {d : Dt} {v : V} (n : Den K G L d v) : EnD K G L (some d :: capD caps ρ) (some v :: capV caps σ) := by
  refine ⟨by unfold capD capV; simp, fun i d' e => ?_⟩
  cases i with
  | zero => cases e; exact ⟨v, rfl, n⟩
  | succ j =>
    have e : (capD caps ρ)[j]? = some (some d') := e
    show ∃ v', (capV caps σ)[j]? = some (some v') ∧ _
    unfold capD at e
    unfold capV
    rw [List.getElem?_map] at e ⊢
    cases q : caps[j]? with
    | none => rw [q] at e; cases e
    | some i =>
      rw [q] at e
      have e : (ρ[i]?).join = some d' := Option.some.inj e
      have e : ρ[i]? = some (some d') := by
        cases q2 : ρ[i]? with
        | none => rw [q2] at e; cases e
        | some o => rw [q2] at e; exact congrArg some e
      obtain ⟨v', e1, n1⟩ := h.ats i d' e
      exact ⟨v', by show some ((σ[i]?).join) = _; rw [e1]; rfl, n1⟩
def compD (te : DE) (cs : En) : List Dt → List Dt → Ms → (List Dt → Ms → Prop) → Prop
  | [], acc, M, k => k acc M
  | x :: xs, acc, M, k => te (some x :: cs) M (fun d M1 => compD te cs xs (acc ++ [d]) M1 k) noX
def dComp (ti : DA) (te : DE) (caps : List Nat) : DE := fun ρ M q x => ti ρ M (fun xs M1 => xs.length ≤ sizeLine ∧ compD te (capD caps ρ) xs [] M1 (fun ys M2 => q (.lst ys) M2)) x
def dCompM (ti : DA) (te : DE) (caps : List Nat) : DE := fun ρ M q x => ti ρ M (fun xs M1 => xs.length ≤ sizeLine ∧ compD te (capD caps ρ) xs [] M1 (fun ys M2 => q (.loc M2.length) (M2 ++ [.lst ys]))) x
/-- the turns of a comprehension, by data: Q is wanted of the list at Dl, which stands outside all that is known -/
theorem comp_rd {K : PySem.W.Frag} {J : It} {te : DE} {caps : List Nat} {ρ : En} {σ : St} {G1 : Hp} {L1 : List Addr} {M1 : Ms} {H1 : Hp} {xs : List Dt} {Dl : Addr} {Q : VK} {k : List Dt → Ms → Prop} (r1 : Rl K G1 L1 M1 H1) (n : EnD K G1 L1 ρ σ) (y : Yl K J xs G1 L1) (hD : H1 Dl = none) (hz : xs.length ≤ sizeLine)
    (h : compD te (capD caps ρ) xs [] M1 k)
    (fin : ∀ G2 L2 M2 H2 ds vs, Ex G1 L1 H1 G2 L2 H2 → Rl K G2 L2 M2 H2 → G2 Dl = none → Dl ∉ L2 → H2 Dl = some (.lst vs) → DenL K G2 L2 ds vs → k ds M2 → Q (.ref Dl) H2) :
    CompR J (lowE K (fun _ => E0) te) (capV caps σ) Q H1 Dl := by
  refine ⟨fun i m ys H2 => m + i = xs.length ∧ H2 Dl = some (.lst ys) ∧ ∃ acc G2 L2 M2, Ex G1 L1 H1 G2 L2 H2 ∧ Rl K G2 L2 M2 H2 ∧ G2 Dl = none ∧ Dl ∉ L2 ∧ DenL K G2 L2 acc ys ∧ acc.length = i ∧ compD te (capD caps ρ) (xs.drop i) acc M2 k, ⟨xs.length, rfl, upd_same, [], G1, L1, M1, ?_⟩, ?_⟩
  · have gn : G1 Dl = none := r1.sub.free hD
    refine ⟨⟨.refl _, .refl _, fun _ h _ => h, fun b u h1 _ => by rw [upd_ne (fun z => by rw [z, hD] at h1; cases h1)]; exact h1, fun _ h => .inl h, fun b h => by rw [upd_ne (fun z => h (by rw [z]; exact hD))]; exact h⟩, ⟨fun b u e => by rw [upd_ne (fun z => by rw [z, gn] at e; cases e)]; exact r1.sub b u e, r1.len, r1.nd, fun i a m h1 h2 => ?_⟩, gn, r1.memN hD, rfl, rfl, by rw [List.drop_zero]; exact h⟩
    obtain ⟨q1, q2⟩ := r1.ats i a m h1 h2
    exact ⟨q1, q2.mono (.refl _) (.refl _) (upd_ne fun z => q2.there (by rw [z]; exact hD))⟩
  · rintro i m ys H2 ⟨hm, hacc, acc, G2, L2, M2, e2, r2, g2, l2, n2, la, h2⟩
    refine ⟨hacc, ?_⟩
    by_cases hi : i < xs.length
    · right
      have hd : xs[i]? = some xs[i] := List.getElem?_eq_getElem hi
      obtain ⟨go, yl⟩ := y.go i G2 L2 M2 H2 _ e2.g e2.l r2 hd
      rw [List.drop_eq_getElem_cons hi] at h2
      refine ⟨go, fun v H3 hy => ?_⟩
      obtain ⟨G3, e3, r3, n3⟩ := yl v H3 hy
      refine ⟨G3, L2, _, M2, _, noX, r3, cap_en ((n.mono e2).mono e3) caps n3, h2, xok_no, fun v4 H4 ⟨d4, G4, L4, M4, e4, r4, n4, h4⟩ => ?_⟩
      have l3 : Dl ∉ L2 := l2
      have h3 : H3 Dl = some (.lst ys) := e3.out _ _ hacc l2
      have g3 : G3 Dl = none := e3.fr _ g2 (by rw [hacc]; simp)
      have h4' : H4 Dl = some (.lst ys) := e4.out _ _ h3 l2
      have g4 : G4 Dl = none := e4.fr _ g3 (by rw [h3]; simp)
      have l4 : Dl ∉ L4 := fun z => (e4.new _ z).elim l2 fun q => by rw [h3] at q; cases q
      have e24 := e3.trans e4
      have lenys : ys.length = i := by rw [← n2.length]; exact la
      have ne1 : ∀ {b : Addr} {u : HO}, H1 b = some u → b ≠ Dl := fun e z => by rw [z, hD] at e; cases e
      refine ⟨h4', by omega, m - 1, by omega, by omega, upd_same, acc ++ [d4], G4, L4, M4, ?_, ?_, g4, l4, (DenL.mono e24.g e24.l _ _ n2).app ⟨_, _, rfl, n4, rfl⟩, by rw [List.length_append, la]; rfl, h4⟩
      · have e14 := e2.trans e24
        exact ⟨e14.g, e14.l, e14.fr, fun b u h1 h2 => by rw [upd_ne (ne1 h1)]; exact e14.out b u h1 h2, e14.new, fun b h => by
          by_cases hb : b = Dl
          · rw [hb, upd_same]; simp
          · rw [upd_ne hb]; exact e14.dom b h⟩
      · refine ⟨fun b u e => by rw [upd_ne (fun z => by rw [z, g4] at e; cases e)]; exact r4.sub b u e, r4.len, r4.nd, fun i a m h1 h2 => ?_⟩
        obtain ⟨q1, q2⟩ := r4.ats i a m h1 h2
        exact ⟨q1, q2.mono (.refl _) (.refl _) (upd_ne fun z => l4 (by rw [← z]; exact List.mem_of_getElem? h1))⟩
    · left
      rw [List.drop_eq_nil_of_le (by omega)] at h2
      exact ⟨y.stop i G2 L2 M2 H2 e2.g e2.l r2 (by omega), fin G2 L2 M2 H2 acc ys e2 r2 g2 l2 hacc n2 h2⟩
section
variable {K : PySem.W.Frag} {G1 : Hp} {L1 : List Addr} {H1 G : Hp} {L : List Addr} {M : Ms} {H : Hp} {p : Addr} {ds : List Dt} {vs : List V} {q : DQ}
/-- a list that nobody holds is taken as it stands, or as one that may change -/
theorem own_val (e : Ex G1 L1 H1 G L H) (r : Rl K G L M H) (hp1 : H1 p = none) (hg : G p = none) (hl : p ∉ L) (h : H p = some (.lst vs)) (n : DenL K G L ds vs) (k : q (.lst ds) M) : Fin K G1 L1 H1 q (.ref p) H := by
  have g1 : Same G (upd G p (.lst vs)) := fun b u e => by rw [upd_ne (fun z => by rw [z, hg] at e; cases e)]; exact e
  refine ⟨.lst ds, upd G p (.lst vs), L, M, ⟨e.g.trans g1, e.l, fun b h1 h2 => ?_, e.out, e.new, e.dom⟩, ⟨fun b u e => ?_, r.len, r.nd, fun k a m h1 h2 => ?_⟩, ⟨p, vs, rfl, upd_same, DenL.mono g1 (.refl _) _ _ n⟩, k⟩
  · rw [upd_ne (fun z => h2 (by rw [z]; exact hp1))]; exact e.fr b h1 h2
  · by_cases hb : b = p
    · rw [hb, upd_same] at e; rw [hb]; cases e; exact h
    · rw [upd_ne hb] at e; exact r.sub b u e
  · obtain ⟨q1, q2⟩ := r.ats k a m h1 h2
    have hb : a ≠ p := fun z => hl (by rw [← z]; exact List.mem_of_getElem? h1)
    exact ⟨by rw [upd_ne hb]; exact q1, q2.mono g1 (.refl _) rfl⟩
theorem own_loc (e : Ex G1 L1 H1 G L H) (r : Rl K G L M H) (hp1 : H1 p = none) (hg : G p = none) (hl : p ∉ L) (h : H p = some (.lst vs)) (n : DenL K G L ds vs) (k : q (.loc M.length) (M ++ [.lst ds])) : Fin K G1 L1 H1 q (.ref p) H := by
  refine ⟨.loc M.length, G, L ++ [p], M ++ [.lst ds], ⟨e.g, e.l.trans ⟨[p], rfl⟩, e.fr, e.out, fun b hb => ?_, e.dom⟩, ⟨r.sub, by rw [List.length_append, List.length_append, r.len]; rfl, List.nodup_append.mpr ⟨r.nd, by simp, fun a ha b hb => ?_⟩, fun k a m h1 h2 => ?_⟩, ⟨p, rfl, by rw [← r.len, List.getElem?_append_right (Nat.le_refl _)]; simp⟩, k⟩
  · rcases List.mem_append.mp hb with z | z
    · exact e.new b z
    · have e : b = p := by simpa using z
      right; rw [e]; exact hp1
  · have e : b = p := by simpa using hb
    rw [e]; exact fun z => hl (z ▸ ha)
  · by_cases hk : k < L.length
    · rw [List.getElem?_append_left hk] at h1
      rw [List.getElem?_append_left (by rw [← r.len]; exact hk)] at h2
      obtain ⟨q1, q2⟩ := r.ats k a m h1 h2
      exact ⟨q1, q2.mono (.refl _) ⟨[p], rfl⟩ rfl⟩
    · have e : k = L.length := by
        have := (List.getElem?_eq_some_iff.mp h1).1
        rw [List.length_append] at this
        simp at this
        omega
      rw [e, List.getElem?_append_right (Nat.le_refl _)] at h1
      rw [e, r.len, List.getElem?_append_right (Nat.le_refl _)] at h2
      simp at h1 h2
      subst h1 h2
      exact ⟨hg, vs, h, DenL.mono (.refl _) ⟨[p], rfl⟩ _ _ n⟩
end
section
variable {X : Cx} {R : St → XK} {elt iter : Expr} {x : Str} {px : Pos} {scope : Scope} {pos : Pos} {ti : DA} {te : DE} {ys : List Str} {caps : List Nat}
theorem j_compM (S : CompScope X scope x ys caps) (hi : JI X R (.Name x px) iter ti) (he : ∀ C s H fp, JE (Cx.comp X (x :: ys) scope C s H fp) (fun _ => E0) elt te) (hc : X.calm = true := by rfl) (hs : ∀ x, foldedSetIterable iter X.env x = pure x := by intro _; rfl) :
    JE X R (.ListComp elt [⟨.Name x px, iter, [], 0⟩] scope pos) (dCompM ti te caps) := .of (pe_comp (wi := lowI X.K R ti) (te := lowE X.K (fun _ => E0) te) S hc hi he hs) fun σ H G L ρ M q x rl n h hx => by
  refine ⟨G, L, ρ, M, _, x, rl, n, h, hx, fun J H1 ⟨xs, G1, L1, M1, e1, r1, y, hz, h1⟩ D hD => ?_⟩
  exact comp_rd r1 (n.mono e1) y hD hz h1 fun G2 L2 M2 H2 ds vs e2 r2 g2 l2 h2 n2 k => Fin.back e1 (own_loc e2 r2 hD g2 l2 h2 n2 k)
/-- name = [..] -/
def sSetC (i : Nat) (t : DE) : DS := fun Dn ρ M => t ρ M (fun d M1 => Dn.nx (ρ.set i (some d)) M1) Dn.x
end
end L2

set_option Elab.async false
set_option linter.all false
set_option maxRecDepth 100000
set_option maxHeartbeats 4000000
namespace L2
open PySem PySem.Spec PyProof.Rows
/-! ### operations by data -/
theorem fin_same {K : PySem.W.Frag} {G0 : Hp} {L0 : List Addr} {H0 G : Hp} {L : List Addr} {M : Ms} {H : Hp} {d : Dt} {v : V} {q : DQ} (e : Ex G0 L0 H0 G L H) (r : Rl K G L M H) (n : Den K G L d v) (h : q d M) : Fin K G0 L0 H0 q v H := ⟨d, G, L, M, e, r, n, h⟩
theorem fin_v {K : PySem.W.Frag} {G0 : Hp} {L0 : List Addr} {H0 G : Hp} {L : List Addr} {M : Ms} {H : Hp} {d : Dt} {v : V} {q : DQ} (e : Ex G0 L0 H0 G L H) (r : Rl K G L M H) (h : q d M) (n : Den K G L d v := by rfl) : Fin K G0 L0 H0 q v H := ⟨d, G, L, M, e, r, n, h⟩
def fAdd : Dt → Dt → Ms → DQ → Prop
  | .int i, .int j, M, q => q (.int (i + j)) M
  | .str a, .str b, M, q => a.length + b.length ≤ sizeLine ∧ q (.str (a ++ b)) M
  | .lst a, .lst b, M, q => a.length + b.length ≤ sizeLine ∧ q (.lst (a ++ b)) M
  | .tup a, .tup b, M, q => (a ≠ [] ∧ a.length + b.length ≤ sizeLine) ∧ q (.tup (a ++ b)) M
  | _, _, _, _ => False
def fSub : Dt → Dt → Ms → DQ → Prop
  | .int i, .int j, M, q => q (.int (i - j)) M
  | _, _, _, _ => False
def fMul : Dt → Dt → Ms → DQ → Prop
  | .int i, .int j, M, q => (Big i ∧ Big j) ∧ q (.int (i * j)) M
  | .lst a, .int k, M, q => (-(2 ^ 63) ≤ k ∧ k < 2 ^ 63 ∧ a.length * k.toNat ≤ sizeLine) ∧ q (.lst (List.replicate k.toNat a).flatten) M
  | _, _, _, _ => False
/-- by a number above 0 -/
def fDiv : Dt → Dt → Ms → DQ → Prop
  | .int i, .int j, M, q => (0 < j ∧ Big j) ∧ q (.int (i / j)) M
  | _, _, _, _ => False
def fDivN : Dt → Dt → Ms → DQ → Prop
  | .int i, .int j, M, q => (j ≠ 0 ∧ Big j) ∧ q (.int (i.fdiv j)) M
  | _, _, _, _ => False
def fMod : Dt → Dt → Ms → DQ → Prop
  | .int i, .int j, M, q => 0 < j ∧ q (.int (i % j)) M
  | _, _, _, _ => False
def fPow : Dt → Dt → Ms → DQ → Prop
  | .int i, .int j, M, q => CPow i j ∧ q (.int (i ^ j.toNat)) M
  | _, _, _, _ => False
def fNeg : Dt → Ms → DQ → Prop
  | .int i, M, q => q (.int (-i)) M
  | _, _, _ => False
section
variable {K : PySem.W.Frag}
theorem catD : OpD K (fun x y H Q => (∃ i j, x = V.int i ∧ y = .int j ∧ Q (.int (i + j)) H) ∨ (∃ i j, x = V.str i ∧ y = .str j ∧ i.length + j.length ≤ sizeLine ∧ Q (.str (i ++ j)) H) ∨ rCat x y H Q ∨ rCatT K x y H Q) fAdd := by
  intro G0 L0 H0 G L M H v1 v2 d1 d2 q e r n1 n2 h
  unfold fAdd at h
  split at h
  · rename_i i j
    exact .inl ⟨i, j, n1, n2, fin_v e r h⟩
  · rename_i a b
    exact .inr (.inl ⟨a, b, n1, n2, h.1, fin_v e r h.2⟩)
  · rename_i a b
    obtain ⟨p1, w1, rfl, e1, m1⟩ := n1
    obtain ⟨p2, w2, rfl, e2, m2⟩ := n2
    refine .inr (.inr (.inl ⟨p1, p2, w1, w2, rfl, rfl, r.sub _ _ e1, r.sub _ _ e2, by rw [← m1.length, ← m2.length]; exact h.1, fun p hp => ?_⟩))
    exact fin_new e r hp (den_lst r hp (m1.app m2)) h.2
  · rename_i a b
    obtain ⟨p1, w1, rfl, e1, m1⟩ := n1
    obtain ⟨p2, w2, rfl, e2, m2⟩ := n2
    have ne : w1 ≠ [] := fun z => h.1.1 (by have := m1.length; rw [z] at this; exact List.eq_nil_of_length_eq_zero this)
    refine .inr (.inr (.inr ⟨p1, p2, w1, w2, rfl, rfl, .inl (.inl (r.sub _ _ e1)), .inl (.inl (r.sub _ _ e2)), ne, by rw [← m1.length, ← m2.length]; exact h.1.2, fun z => ?_, fun _ p hp => ?_⟩))
    · have hb : b = [] := by have := m2.length; rw [z] at this; exact List.eq_nil_of_length_eq_zero this
      subst hb
      rw [List.append_nil] at h
      exact fin_same (d := .tup a) e r ⟨p1, w1, rfl, e1, m1⟩ h.2
    · exact fin_new e r hp (den_tup r hp (m1.app m2)) h.2
  · exact h.elim
theorem subD : OpD K (rI0 fun i j => .int (i - j)) fSub := by
  intro G0 L0 H0 G L M H v1 v2 d1 d2 q e r n1 n2 h
  unfold fSub at h
  split at h
  · exact ⟨_, _, n1, n2, fin_v e r h⟩
  · exact h.elim
theorem mulD : OpD K (fun x y H Q => (rI (fun i j => Big i ∧ Big j) fun i j => .int (i * j)) x y H Q ∨ rRep x y H Q) fMul := by
  intro G0 L0 H0 G L M H v1 v2 d1 d2 q e r n1 n2 h
  unfold fMul at h
  split at h
  · exact .inl ⟨_, _, n1, n2, h.1, fin_v e r h.2⟩
  · rename_i a k
    obtain ⟨p1, w1, rfl, e1, m1⟩ := n1
    refine .inr ⟨p1, k, w1, rfl, n2, r.sub _ _ e1, h.1.1, h.1.2.1, by rw [← m1.length]; exact h.1.2.2, fun p hp => ?_⟩
    exact fin_new e r hp (den_lst r hp (.of (prd_rep m1.pair k.toNat))) h.2
  · exact h.elim
theorem divD : OpD K (rI (fun _ j => j ≠ 0 ∧ Big j) fun i j => .int (i.fdiv j)) fDiv := by
  intro G0 L0 H0 G L M H v1 v2 d1 d2 q e r n1 n2 h
  unfold fDiv at h
  split at h
  · rename_i i j
    have h0 := h.1.1
    refine ⟨_, _, n1, n2, ⟨by omega, h.1.2⟩, fin_same (d := .int (i.fdiv j)) e r rfl ?_⟩
    rw [Int.fdiv_eq_ediv_of_nonneg i (Int.le_of_lt h0)]
    exact h.2
  · exact h.elim
theorem divND : OpD K (rI (fun _ j => j ≠ 0 ∧ Big j) fun i j => .int (i.fdiv j)) fDivN := by
  intro G0 L0 H0 G L M H v1 v2 d1 d2 q e r n1 n2 h
  unfold fDivN at h
  split at h
  · exact ⟨_, _, n1, n2, h.1, fin_v e r h.2⟩
  · exact h.elim
theorem modD : OpD K (rI (fun _ j => 0 < j) fun i j => .int (i % j)) fMod := by
  intro G0 L0 H0 G L M H v1 v2 d1 d2 q e r n1 n2 h
  unfold fMod at h
  split at h
  · exact ⟨_, _, n1, n2, h.1, fin_v e r h.2⟩
  · exact h.elim
theorem powD : OpD K (rI CPow fun i j => .int (i ^ j.toNat)) fPow := by
  intro G0 L0 H0 G L M H v1 v2 d1 d2 q e r n1 n2 h
  unfold fPow at h
  split at h
  · exact ⟨_, _, n1, n2, h.1, fin_v e r h.2⟩
  · exact h.elim
theorem negD : UnD K (rU fun i => .int (-i)) fNeg := by
  intro G0 L0 H0 G L M H v1 d1 q e r n1 h
  unfold fNeg at h
  split at h
  · exact ⟨_, n1, fin_v e r h⟩
  · exact h.elim
end
section
variable {X : Cx} {R : St → XK} {a b c : Expr} {ta tb : DE} {pos : Pos}
theorem j_add (ja : JE X R a ta) (jb : JE X R b tb) : JE X R (.BinOp a .Add b pos) (dOp fAdd ta tb) := j_op (op_add.or (op_add_str.or (op_cat.or op_catT))) catD ja jb
theorem j_sub (ja : JE X R a ta) (jb : JE X R b tb) : JE X R (.BinOp a .Sub b pos) (dOp fSub ta tb) := j_op op_sub subD ja jb
theorem j_mul (ja : JE X R a ta) (jb : JE X R b tb) : JE X R (.BinOp a .Mult b pos) (dOp fMul ta tb) := j_op (op_mulB.or op_rep) mulD ja jb
theorem j_div (ja : JE X R a ta) (jb : JE X R b tb) : JE X R (.BinOp a .FloorDiv b pos) (dOp fDiv ta tb) := j_op op_fdivB divD ja jb
theorem j_divN (ja : JE X R a ta) (jb : JE X R b tb) : JE X R (.BinOp a .FloorDiv b pos) (dOp fDivN ta tb) := j_op op_fdivB divND ja jb
theorem j_mod (ja : JE X R a ta) (jb : JE X R b tb) : JE X R (.BinOp a .Mod b pos) (dOp fMod ta tb) := j_op op_mod modD ja jb
theorem j_pow (ja : JE X R a ta) (jb : JE X R b tb) : JE X R (.BinOp a .Pow b pos) (dOp fPow ta tb) := j_op op_pow powD ja jb
theorem j_neg (ja : JE X R a ta) : JE X R (.UnaryOp .USub a pos) (dUn fNeg ta) := j_un un_neg negD ja
end
/-! ### comparisons -/
def fLt : Dt → Dt → Ms → DQ → Prop
  | .int i, .int j, M, q => q (.bl (decide (i < j))) M
  | _, _, _, _ => False
def fLe : Dt → Dt → Ms → DQ → Prop
  | .int i, .int j, M, q => q (.bl (decide (i ≤ j))) M
  | _, _, _, _ => False
def fGt : Dt → Dt → Ms → DQ → Prop
  | .int i, .int j, M, q => q (.bl (decide (j < i))) M
  | _, _, _, _ => False
def fGe : Dt → Dt → Ms → DQ → Prop
  | .int i, .int j, M, q => q (.bl (decide (j ≤ i))) M
  | _, _, _, _ => False
def flatD : Dt → Option V
  | .non => some .non
  | .bl b => some (.bl b)
  | .int i => some (.int i)
  | .str x => some (.str x)
  | _ => none
def flatDs : List Dt → Option (List V)
  | [] => some []
  | d :: ds => match flatD d, flatDs ds with
    | some v, some vs => some (v :: vs)
    | _, _ => none
section
variable {K : PySem.W.Frag} {G : Hp} {L : List Addr}
theorem flatD_is {d : Dt} {v u : V} (h : flatD d = some u) (n : Den K G L d v) : v = u ∧ flatV u = true := by
  cases d <;> first | (cases h; exact ⟨n, rfl⟩) | cases h
theorem flatDs_is : ∀ {ds : List Dt} {vs us : List V}, flatDs ds = some us → DenL K G L ds vs → vs = us ∧ us.all flatV = true
  | [], vs, us, h, n => by
    cases h
    exact ⟨n, rfl⟩
  | d :: ds, _, us, h, ⟨v, r, e, n1, n2⟩ => by
    subst e
    unfold flatDs at h
    split at h
    · rename_i u1 u2 h1 h2
      cases h
      obtain ⟨a1, a2⟩ := flatD_is h1 n1
      obtain ⟨b1, b2⟩ := flatDs_is h2 n2
      subst a1 b1
      exact ⟨rfl, by rw [List.all_cons, a2, b2]; rfl⟩
    · cases h
end
/-- == of flat things, of tuples of flat things -/
def fEqF : Dt → Dt → Ms → DQ → Prop
  | .int i, .int j, M, q => q (.bl (decide (i = j))) M
  | .str i, .str j, M, q => q (.bl (decide (i = j))) M
  | .bl i, .bl j, M, q => q (.bl (decide (i = j))) M
  | .tup a, .tup b, M, q => match flatDs a, flatDs b with
    | some us, some vs => q (.bl (eqVs us vs)) M
    | _, _ => False
  | _, _, _, _ => False
def fNeF : Dt → Dt → Ms → DQ → Prop
  | .int i, .int j, M, q => q (.bl (!decide (i = j))) M
  | .str i, .str j, M, q => q (.bl (!decide (i = j))) M
  | .bl i, .bl j, M, q => q (.bl (!decide (i = j))) M
  | .tup a, .tup b, M, q => match flatDs a, flatDs b with
    | some us, some vs => q (.bl (!eqVs us vs)) M
    | _, _ => False
  | _, _, _, _ => False
def fIsN : Dt → Dt → Ms → DQ → Prop
  | .non, .non, M, q => q (.bl true) M
  | .bl _, .non, M, q => q (.bl false) M
  | .int _, .non, M, q => q (.bl false) M
  | .str _, .non, M, q => q (.bl false) M
  | .tup _, .non, M, q => q (.bl false) M
  | .lst _, .non, M, q => q (.bl false) M
  | _, _, _, _ => False
def fNotN : Dt → Dt → Ms → DQ → Prop
  | .non, .non, M, q => q (.bl false) M
  | .bl _, .non, M, q => q (.bl true) M
  | .int _, .non, M, q => q (.bl true) M
  | .str _, .non, M, q => q (.bl true) M
  | .tup _, .non, M, q => q (.bl true) M
  | .lst _, .non, M, q => q (.bl true) M
  | _, _, _, _ => False
section
variable {K : PySem.W.Frag}
theorem ltD : OpD K (rI0 fun i j => .bl (decide (i < j))) fLt := by
  intro G0 L0 H0 G L M H v1 v2 d1 d2 q e r n1 n2 h
  unfold fLt at h
  split at h
  · exact ⟨_, _, n1, n2, fin_v e r h⟩
  · exact h.elim
theorem gtD : OpD K (rI0 fun i j => .bl (decide (j < i))) fGt := by
  intro G0 L0 H0 G L M H v1 v2 d1 d2 q e r n1 n2 h
  unfold fGt at h
  split at h
  · exact ⟨_, _, n1, n2, fin_v e r h⟩
  · exact h.elim
theorem dec_iff {p q : Prop} [Decidable p] [Decidable q] (h : p ↔ q) : decide p = decide q := decide_eq_decide.mpr h
theorem eqFD : OpD K (fun x y H Q => rEq x y H Q ∨ rEqT K x y H Q) fEqF := by
  intro G0 L0 H0 G L M H v1 v2 d1 d2 q e r n1 n2 h
  unfold fEqF at h
  split at h
  · rename_i i j
    cases n1; cases n2
    exact .inl ⟨rfl, fin_same (d := .bl _) e r (by show V.bl _ = V.bl _; rw [dec_iff (p := V.int i = V.int j) (q := i = j) ⟨fun z => V.int.inj z, fun z => by rw [z]⟩]) h⟩
  · rename_i i j
    cases n1; cases n2
    exact .inl ⟨rfl, fin_same (d := .bl _) e r (by show V.bl _ = V.bl _; rw [dec_iff (p := V.str i = V.str j) (q := i = j) ⟨fun z => V.str.inj z, fun z => by rw [z]⟩]) h⟩
  · rename_i i j
    cases n1; cases n2
    exact .inl ⟨rfl, fin_same (d := .bl _) e r (by show V.bl _ = V.bl _; rw [dec_iff (p := V.bl i = V.bl j) (q := i = j) ⟨fun z => V.bl.inj z, fun z => by rw [z]⟩]) h⟩
  · rename_i a b
    obtain ⟨p1, w1, rfl, e1, m1⟩ := n1
    obtain ⟨p2, w2, rfl, e2, m2⟩ := n2
    split at h
    · rename_i us vs h1 h2
      obtain ⟨rfl, a2⟩ := flatDs_is h1 m1
      obtain ⟨rfl, b2⟩ := flatDs_is h2 m2
      exact .inr ⟨p1, p2, _, _, rfl, rfl, .inl (.inl (r.sub _ _ e1)), .inl (.inl (r.sub _ _ e2)), a2, b2, fin_v e r h⟩
    · exact h.elim
  · exact h.elim
theorem neFD : OpD K (fun x y H Q => rNe x y H Q ∨ rNeT K x y H Q) fNeF := by
  intro G0 L0 H0 G L M H v1 v2 d1 d2 q e r n1 n2 h
  unfold fNeF at h
  split at h
  · rename_i i j
    cases n1; cases n2
    exact .inl ⟨rfl, fin_same (d := .bl _) e r (by show V.bl _ = V.bl _; rw [dec_iff (p := V.int i = V.int j) (q := i = j) ⟨fun z => V.int.inj z, fun z => by rw [z]⟩]) h⟩
  · rename_i i j
    cases n1; cases n2
    exact .inl ⟨rfl, fin_same (d := .bl _) e r (by show V.bl _ = V.bl _; rw [dec_iff (p := V.str i = V.str j) (q := i = j) ⟨fun z => V.str.inj z, fun z => by rw [z]⟩]) h⟩
  · rename_i i j
    cases n1; cases n2
    exact .inl ⟨rfl, fin_same (d := .bl _) e r (by show V.bl _ = V.bl _; rw [dec_iff (p := V.bl i = V.bl j) (q := i = j) ⟨fun z => V.bl.inj z, fun z => by rw [z]⟩]) h⟩
  · rename_i a b
    obtain ⟨p1, w1, rfl, e1, m1⟩ := n1
    obtain ⟨p2, w2, rfl, e2, m2⟩ := n2
    split at h
    · rename_i us vs h1 h2
      obtain ⟨rfl, a2⟩ := flatDs_is h1 m1
      obtain ⟨rfl, b2⟩ := flatDs_is h2 m2
      exact .inr ⟨p1, p2, _, _, rfl, rfl, .inl (.inl (r.sub _ _ e1)), .inl (.inl (r.sub _ _ e2)), a2, b2, fin_v e r h⟩
    · exact h.elim
  · exact h.elim
theorem isND : OpD K (fun x y H Q => y = .non ∧ Q (.bl (decide (x = .non))) H) fIsN := by
  intro G0 L0 H0 G L M H v1 v2 d1 d2 q e r n1 n2 h
  unfold fIsN at h
  split at h
  · cases n1; exact ⟨n2, fin_same (d := .bl true) e r (by show V.bl _ = V.bl _; rw [decide_eq_true rfl]) h⟩
  · cases n1; exact ⟨n2, fin_same (d := .bl false) e r (by show V.bl _ = V.bl _; rw [decide_eq_false (fun z => nomatch z)]) h⟩
  · cases n1; exact ⟨n2, fin_same (d := .bl false) e r (by show V.bl _ = V.bl _; rw [decide_eq_false (fun z => nomatch z)]) h⟩
  · cases n1; exact ⟨n2, fin_same (d := .bl false) e r (by show V.bl _ = V.bl _; rw [decide_eq_false (fun z => nomatch z)]) h⟩
  · obtain ⟨p1, w1, rfl, _⟩ := n1; exact ⟨n2, fin_same (d := .bl false) e r (by show V.bl _ = V.bl _; rw [decide_eq_false (fun z => nomatch z)]) h⟩
  · obtain ⟨p1, w1, rfl, _⟩ := n1; exact ⟨n2, fin_same (d := .bl false) e r (by show V.bl _ = V.bl _; rw [decide_eq_false (fun z => nomatch z)]) h⟩
  · exact h.elim
end
section
variable {X : Cx} {R : St → XK} {a b c : Expr} {ta tb : DE} {pos : Pos}
theorem jt_lt (ja : JE X R a ta) (jb : JE X R b tb) : JT X R (.Compare a [.Lt] [b] pos) (tstD (dOp fLt ta tb)) := jt_cmp op_lt ltD ja jb (nomark _)
theorem jt_gt (ja : JE X R a ta) (jb : JE X R b tb) : JT X R (.Compare a [.Gt] [b] pos) (tstD (dOp fGt ta tb)) := jt_cmp op_gt gtD ja jb (nomark _)
theorem jt_eq {k : Nat} (hr : Room k X.A) (ja : JE X R a ta) (jb : JE X R b tb) : JT X R (.Compare a [.Eq] [b] pos) (tstD (dOp fEqF ta tb)) := jt_cmp (op_eq.or (op_eqT hr.units0)) eqFD ja jb (nomark _)
theorem jt_ne {k : Nat} (hr : Room k X.A) (ja : JE X R a ta) (jb : JE X R b tb) : JT X R (.Compare a [.NotEq] [b] pos) (tstD (dOp fNeF ta tb)) := jt_cmp (op_ne.or (op_neT hr.units0)) neFD ja jb (nomark _)
theorem jt_isN (ja : JE X R a ta) (jb : JE X R b tb) : JT X R (.Compare a [.Is] [b] pos) (tstD (dOp fIsN ta tb)) := jt_cmp op_isN isND ja jb (nomark _)
end
/-! ### index, len -/
def seqD (M : Ms) : Dt → Option (List Dt)
  | .lst xs => some xs
  | .tup xs => some xs
  | .scr ns => some (ns.map .int)
  | .kt xs => some xs
  | .loc k => match M[k]? with
    | some (.lst xs) => some xs
    | _ => none
  | _ => none
theorem seqD_is {K : PySem.W.Frag} {G : Hp} {L : List Addr} {M : Ms} {H : Hp} {d : Dt} {v : V} {xs : List Dt} (r : Rl K G L M H) (n : Den K G L d v) (h : seqD M d = some xs) : ∃ a vs, v = .ref a ∧ (SqL K H a vs ∨ SqT K H a vs) ∧ DenL K G L xs vs := by
  cases d with
  | lst ds => cases h; obtain ⟨a, vs, rfl, e, m⟩ := n; exact ⟨a, vs, rfl, .inl (.of (r.sub _ _ e)), m⟩
  | tup ds => cases h; obtain ⟨a, vs, rfl, e, m⟩ := n; exact ⟨a, vs, rfl, .inr (.of (r.sub _ _ e)), m⟩
  | kt ds => cases h; obtain ⟨a, vs, rfl, e, m⟩ := n; exact ⟨a, vs, rfl, .inr (r.sub.sqT e), m⟩
  | scr ns => cases h; obtain ⟨a, rfl, e⟩ := n; exact ⟨a, _, rfl, .inl (r.sub.seq e), denL_ints⟩
  | loc k =>
    obtain ⟨a, rfl, e⟩ := n
    have h : (match M[k]? with | some (.lst xs) => some xs | _ => none) = some xs := h
    split at h
    · rename_i ys hm
      cases h
      obtain ⟨_, vs, e1, m1⟩ := r.ats k a _ e hm
      exact ⟨a, vs, rfl, .inl (.of e1), m1⟩
    · cases h
  | _ => cases h
theorem atI_den {K : PySem.W.Frag} {G : Hp} {L : List Addr} {ds : List Dt} {vs : List V} {i : Int} {d : Dt} (n : DenL K G L ds vs) (h : atI ds i = some d) : ∃ v, atI vs i = some v ∧ Den K G L d v := by
  unfold atI at h ⊢
  rw [← n.length]
  cases q : ixN ds.length i with
  | none => rw [q] at h; cases h
  | some j =>
    rw [q] at h
    obtain ⟨v, e, m⟩ := n.get h
    exact ⟨v, e, m⟩
def fIx : Dt → Dt → Ms → DQ → Prop
  | .str z, .int i, M, q => z.length ≤ sizeLine ∧ match atI z.cps.toList i with
    | some c => q (.str ⟨#[c]⟩) M
    | none => False
  | d, .int i, M, q => match seqD M d with
    | some xs => (match atI xs i with
      | some y => q y M
      | none => False)
    | none => False
  | _, _, _, _ => False
def fLen : List Dt → Ms → DQ → Prop
  | [.str z], M, q => z.length ≤ sizeLine ∧ q (.int z.length) M
  | [d], M, q => match seqD M d with
    | some xs => q (.int xs.length) M
    | none => False
  | _, _, _ => False
section
variable {K : PySem.W.Frag}
theorem ixD : OpD K (rIx K) fIx := by
  intro G0 L0 H0 G L M H v1 v2 d1 d2 q e r n1 n2 h
  unfold fIx at h
  split at h
  · rename_i z i
    split at h
    · rename_i c hc
      exact .inr (.inr ⟨z, i, c, n1, n2, h.1, hc, fin_v e r h.2⟩)
    · exact h.2.elim
  · rename_i d i _
    split at h
    · rename_i xs hx
      split at h
      · rename_i y hy
        obtain ⟨a, vs, rfl, hs, m⟩ := seqD_is r n1 hx
        obtain ⟨v, e1, m1⟩ := atI_den m hy
        rcases hs with hs | hs
        · exact .inl ⟨a, vs, i, v, rfl, n2, hs, e1, fin_same e r m1 h⟩
        · exact .inr (.inl ⟨a, vs, i, v, rfl, n2, hs, e1, fin_same e r m1 h⟩)
      · exact h.elim
    · exact h.elim
  · exact h.elim
theorem lenD : CaD K (fun xs H Q => (∃ z, xs = [V.str z] ∧ z.length ≤ sizeLine ∧ Q (.int z.length) H) ∨ (∃ p ys, xs = [V.ref p] ∧ (SqL K H p ys ∨ SqT K H p ys) ∧ Q (.int ys.length) H)) fLen := by
  intro G0 L0 H0 G L M H vs ds q e r n h
  unfold fLen at h
  split at h
  · rename_i z
    obtain ⟨v, rfl, n1⟩ := denL_one n
    cases n1
    exact .inl ⟨z, rfl, h.1, fin_v e r h.2⟩
  · rename_i d _
    obtain ⟨v, rfl, n1⟩ := denL_one n
    split at h
    · rename_i xs hx
      obtain ⟨a, ws, rfl, hs, m⟩ := seqD_is r n1 hx
      exact .inr ⟨a, ws, rfl, hs, fin_same (d := .int xs.length) e r (by show V.int _ = V.int _; rw [m.length]) h⟩
    · exact h.elim
  · exact h.elim
end
section
variable {X : Cx} {R : St → XK} {a b c : Expr} {ta tb : DE} {pos : Pos}
theorem j_ix (ja : JE X R a ta) (jb : JE X R b tb) (hs : PlainIx b := by exact fun _ _ => rfl) : JE X R (.Subscript a b pos) (dOp fIx ta tb) := j_ixs ix_seq ixD ja jb hs
variable {x : Str} {p : Pos} {e : Expr} {es : List Expr} {t : DA} {id T : String} {r : List V → Hp → VK → Prop} {f : List Dt → Ms → DQ → Prop}
theorem j_callB (hc : CallR X (.builtin id) r) (cd : CaD X.K r f) (hm : X.mg x = none) (hv : bootBuiltins x = some (.builtin id)) (ha : JA X R (e :: es) t) (hg : Gl X x := by rfl) (hn : x ≠ "__name__" := by decide) (hdb : (x == ("__debug__" : Str)) = false := by decide)
    (he : starEach (e :: es) X.env = (false, eval e X.env) :: starEach es X.env := by rfl) (hpl : (backTo pos (starEach es X.env)).any (·.1) = false := by rfl) : JE X R (.Call (.Name x p) (e :: es) [] pos) (dFn f t) :=
  .of (pe_callB hc hg hm hv ha hn hdb he hpl) fun σ H G L ρ M q x r n h hx => ca_rd cd r n h hx
theorem j_callTy (hc : CallR X (.type T) r) (cd : CaD X.K r f) (hm : X.mg x = none) (hv : bootBuiltins x = some (.type T)) (ha : JA X R (e :: es) t) (hg : Gl X x := by rfl) (hn : x ≠ "__name__" := by decide) (hdb : (x == ("__debug__" : Str)) = false := by decide)
    (he : starEach (e :: es) X.env = (false, eval e X.env) :: starEach es X.env := by rfl) (hpl : (backTo pos (starEach es X.env)).any (·.1) = false := by rfl) : JE X R (.Call (.Name x p) (e :: es) [] pos) (dFn f t) :=
  .of (pe_callTy hc hg hm hv ha hn hdb he hpl) fun σ H G L ρ M q x r n h hx => ca_rd cd r n h hx
theorem j_len (hm : X.mg "len" = none) (ha : JA X R [e] t) (he : starEach [e] X.env = (false, eval e X.env) :: starEach [] X.env := by rfl) (hpl : (backTo pos (starEach [] X.env)).any (·.1) = false := by rfl) (hg : Gl X "len" := by rfl) : JE X R (.Call (.Name "len" p) [e] [] pos) (dFn fLen t) :=
  j_callB (call_len_str.or call_len_seq) lenD hm PySem.boot_len ha hg (by decide) (by decide) he hpl
end
end L2

set_option Elab.async false
set_option linter.all false
set_option maxRecDepth 100000
set_option maxHeartbeats 4000000
namespace L2
open PySem PySem.Spec PyProof.Rows
/-! ### texts -/
section
variable {X : Cx}
def rSplit : V → List V → Hp → VK → Prop := fun x xs H Q => ∃ z y, x = .str z ∧ xs = [.str y] ∧ (y.length == 0) = false ∧ z.length + 2 ≤ sizeLine ∧ ∀ p, H p = none → Q (.ref p) (upd H p (.lst ((Txt.split z y).map V.str)))
def rStarts : V → List V → Hp → VK → Prop := fun x xs H Q => ∃ z y, x = .str z ∧ xs = [.str y] ∧ Q (.bl (Txt.startswith z y)) H
/-! a slice of a text -/
def optI : Option Int → Value → Prop := fun o v => IsPart v o
def rSlS : V → Option Int → Option Int → Hp → VK → Prop := fun x lo hi H Q => ∃ z, x = .str z ∧ z.length ≤ sizeLine ∧ Q (.str (Txt.slice z lo hi)) H
end
/-! f-strings -/
def tFmt (ta : TE) : TE := fun σ H Q => ta σ H fun x H1 => (∃ i, x = .int i ∧ i.natAbs.log2 < 1920 ∧ Q (.str (toString i)) H1) ∨ ∃ z, x = .str z ∧ z.length ≤ sizeLine ∧ Q (.str z) H1
def tJoin : List TE → Str → TE
  | [], acc => fun _ H Q => Q (.str acc) H
  | t :: ts, acc => fun σ H Q => t σ H fun x H1 => ∃ y, x = .str y ∧ (acc ++ y).length ≤ sizeLine ∧ tJoin ts (acc ++ y) σ H1 Q
section
variable {X : Cx} {a : Expr} {ta : TE} {pos : Pos}
end
/-! ### by data -/
def fSplit : Dt → List Dt → Ms → DQ → Prop
  | .str z, [.str y], M, q => ((y.length == 0) = false ∧ z.length + 2 ≤ sizeLine) ∧ q (.lst ((Txt.split z y).map Dt.str)) M
  | _, _, _, _ => False
def fStarts : Dt → List Dt → Ms → DQ → Prop
  | .str z, [.str y], M, q => q (.bl (Txt.startswith z y)) M
  | _, _, _, _ => False
def fStr : List Dt → Ms → DQ → Prop
  | [.int i], M, q => i.natAbs.log2 < 1920 ∧ q (.str (Str.ofString (toString i))) M
  | _, _, _ => False
def fInt : List Dt → Ms → DQ → Prop
  | [.int i], M, q => q (.int i) M
  | [.bl b], M, q => q (.int (if b then 1 else 0)) M
  | [.str x], M, q => x.length ≤ 640 ∧ match PySem.intText? x with
    | some n => q (.int n) M
    | none => False
  | _, _, _ => False
def fFmt : Dt → Ms → DQ → Prop
  | .int i, M, q => i.natAbs.log2 < 1920 ∧ q (.str (Str.ofString (toString i))) M
  | .str z, M, q => z.length ≤ sizeLine ∧ q (.str z) M
  | _, _, _ => False
def fAbs : List Dt → Ms → DQ → Prop
  | [.int i], M, q => q (.int (if i < 0 then -i else i)) M
  | _, _, _ => False
def fMax : List Dt → Ms → DQ → Prop
  | [.int i, .int j], M, q => q (.int (if j > i then j else i)) M
  | _, _, _ => False
def fMin : List Dt → Ms → DQ → Prop
  | [.int i, .int j], M, q => q (.int (if j < i then j else i)) M
  | _, _, _ => False
def fAny : List Dt → Ms → DQ → Prop
  | [d], M, q => ∃ bs : List Bool, seqD M d = some (bs.map Dt.bl) ∧ (∀ k, d ≠ .kt k) ∧ (∀ k, d ≠ .tup k) ∧ q (.bl (bs.any id)) M
  | _, _, _ => False
def kindD : Dt → Option Value
  | .non => some (.type "NoneType")
  | .bl _ => some (.type "bool")
  | .int _ => some (.type "int")
  | .str _ => some (.type "str")
  | .lst _ => some (.type "list")
  | .tup _ => some (.type "tuple")
  | _ => none
def clsD : Dt → Option Value
  | .ty T => some (.type T)
  | .ref C => some (.ref C)
  | _ => none
def fIsi (K : PySem.W.Frag) : List Dt → Ms → DQ → Prop
  | [d, c], M, q => match kindD d, clsD c with
    | some t, some t' => (match PySem.W.kitOne K t t' with
      | some b => q (.bl b) M
      | none => False)
    | _, _ => False
  | _, _, _ => False
/-- a sign, or a text, in a text -/
def fInS : Dt → Dt → Ms → DQ → Prop
  | .str i, .str j, M, q => q (.bl (!(Builtin.Str.occurrences j i 0 j.length 1).isEmpty)) M
  | _, _, _, _ => False
def fNotInS : Dt → Dt → Ms → DQ → Prop
  | .str i, .str j, M, q => q (.bl (!(!(Builtin.Str.occurrences j i 0 j.length 1).isEmpty))) M
  | _, _, _, _ => False
section
variable {K : PySem.W.Frag}
theorem absD : CaD K (fun xs H Q => ∃ i, xs = [V.int i] ∧ Q (.int (if i < 0 then -i else i)) H) fAbs := by
  intro G0 L0 H0 G L M H vs ds q e r n h
  unfold fAbs at h
  split at h
  · rename_i i
    obtain ⟨v, rfl, n1⟩ := denL_one n
    cases n1
    exact ⟨i, rfl, fin_v e r h⟩
  · exact h.elim
theorem minD : CaD K (fun xs H Q => ∃ i j, xs = [V.int i, .int j] ∧ Q (.int (if j < i then j else i)) H) fMin := by
  intro G0 L0 H0 G L M H vs ds q e r n h
  unfold fMin at h
  split at h
  · rename_i i j
    obtain ⟨v, u, rfl, n1, n2⟩ := denL_two n
    cases n1; cases n2
    exact ⟨i, j, rfl, fin_v e r h⟩
  · exact h.elim
theorem tyOf_kind {G : Hp} {L : List Addr} {M : Ms} {H : Hp} {d : Dt} {v : V} {t : Value} (r : Rl K G L M H) (n : Den K G L d v) (h : kindD d = some t) : TyOf K H v t := by
  cases d with
  | non => cases h; cases n; exact .non
  | bl b => cases h; cases n; exact .bl _
  | int i => cases h; cases n; exact .int _
  | str x => cases h; cases n; exact .str _
  | lst xs => cases h; obtain ⟨a, ws, rfl, e, _⟩ := n; exact .lst (r.sub _ _ e)
  | tup xs => cases h; obtain ⟨a, ws, rfl, e, _⟩ := n; exact .tup (r.sub _ _ e)
  | _ => cases h
theorem cls_den {G : Hp} {L : List Addr} {d : Dt} {v : V} {t : Value} (n : Den K G L d v) (h : clsD d = some t) : clsV v = some t := by
  cases d with
  | ty T => cases n; exact h
  | ref C => cases n; exact h
  | _ => cases h
end
def dBM (f : Dt → List Dt → Ms → DQ → Prop) (to : DE) (t : DA) : DE := fun ρ M q x => to ρ M (fun d M1 => t ρ M1 (fun ds M2 => f d ds M2 q) x) x
def dFmtJ : List DE → Str → DE
  | [], acc => fun _ M q _ => q (.str acc) M
  | t :: ts, acc => fun ρ M q x => t ρ M (fun d M1 => match d with
    | .str y => (acc ++ y).length ≤ sizeLine ∧ dFmtJ ts (acc ++ y) ρ M1 q x
    | _ => False) x
def dSlS (te : DE) (lo hi : Option DE) : DE := fun ρ M q x => te ρ M (fun d M1 => match d with
  | .str z => z.length ≤ sizeLine ∧ (match lo, hi with
    | none, none => q (.str (Txt.slice z none none)) M1
    | some l, none => l ρ M1 (fun dl M2 => match dl with | .int i => q (.str (Txt.slice z (some i) none)) M2 | _ => False) x
    | none, some u => u ρ M1 (fun du M2 => match du with | .int j => q (.str (Txt.slice z none (some j))) M2 | _ => False) x
    | some l, some u => l ρ M1 (fun dl M2 => match dl with | .int i => u ρ M2 (fun du M3 => match du with | .int j => q (.str (Txt.slice z (some i) (some j))) M3 | _ => False) x | _ => False) x)
  | _ => False) x
section
variable {X : Cx} {R : St → XK} {o a e e1 e2 : Expr} {es : List Expr} {to ta te : DE} {t : DA} {name : Str} {apos cpos pos p p2 : Pos} {T id : String}
/-! built-in functions -/
theorem boot_int' : bootBuiltins "int" = some (.type "int") := by decide +kernel
theorem boot_abs' : bootBuiltins "abs" = some (.builtin "abs") := by decide +kernel
theorem boot_min' : bootBuiltins "min" = some (.builtin "min") := by decide +kernel
theorem boot_isinstance' : bootBuiltins "isinstance" = some (.builtin "isinstance") := by decide +kernel
theorem boot_bool' : bootBuiltins "bool" = some (.type "bool") := by decide +kernel
theorem boot_tuple' : bootBuiltins "tuple" = some (.type "tuple") := by decide +kernel
theorem boot_list' : bootBuiltins "list" = some (.type "list") := by decide +kernel
theorem j_ty {x : Str} {T : String} (hm : X.mg x = none) (hv : bootBuiltins x = some (.type T)) (hg : Gl X x := by rfl) (hn : x ≠ "__name__" := by decide) (hd : (x == ("__debug__" : Str)) = false := by decide) : JE X R (.Name x p) (dC (.ty T)) := j_c (pe_bltn (v := .ty T) hg hm hv rfl hn hd) fun _ _ => rfl
end
end L2

set_option Elab.async false
set_option linter.all false
set_option maxRecDepth 100000
set_option maxHeartbeats 4000000
namespace L2
open PySem PySem.Spec PyProof.Rows
/-! ### a text walked sign by sign -/
def Its (x : Str) : It := ⟨fun i _ => i < x.cps.size, fun i H v H' => H' = H ∧ ∃ c, x.cps[i]? = some c ∧ v = .str ⟨#[c]⟩, fun i _ => x.cps.size ≤ i⟩
theorem turn_strA {P : Program} {w : World} {K : PySem.W.Frag} {tg : Expr} (x : Str) (t : Tok) (it : Addr) : Turn P w K tg (Its x) [it] it (fun i h => h.IsStrIter it "str_ascii_iterator" x t i) where
  mem := by simp
  obj := fun i h st b hb => by
    have e : b = it := by simpa using hb
    subst e
    obtain ⟨o, e, c, d⟩ := st
    exact ⟨o, e, fun v z => by rw [d] at z; cases z⟩
  keep := fun i h h' st k => let ⟨o, ho, r⟩ := st; ⟨o, k it (by simp) o ho, r⟩
  item := by
    intro X hP hw hK hc i pins s σ H E I hf st hg
    subst hP hw hK
    obtain ⟨f0, f1, f2, f3, f4, f5⟩ := hf it (by simp)
    have hg : i < x.cps.size := hg
    refine wpAny_pyNext_ascii_item st (c := x.cps[i]) (by simp [hg]) fun h' st' sb => ?_
    have I1 : Inv X pins σ H { s with heap := h', toks := s.toks + 1 } := I.turned (fun b o hb e => (sb.2 b hb).trans e) f0 f1 f3 f4 f5
    obtain ⟨o, e, c, d⟩ := id st'
    exact ⟨_, rfl, go_of (s := { s with heap := h', toks := s.toks + 1 }) e c d (by decide) ⟨.str ⟨#[x.cps[i]]⟩, H, I1, ⟨_, rfl⟩, ⟨rfl, _, by simp [hg], rfl⟩, st', fun b hb => (hf b hb).1⟩⟩
  done := by
    intro X hP hw hK hc i pins s σ H E I hf st hg
    subst hP hw hK
    obtain ⟨f0, f1, f2, f3, f4, f5⟩ := hf it (by simp)
    have hg : x.cps.size ≤ i := hg
    exact wpAny_pyNext_ascii_end (I.ok.hd hc) st (by simp; omega) fun h' eb => ⟨rfl, I.turned (t' := s.toks) (fun b o hb e => eb b o hb e) f0 f1 f3 f4 f5⟩
  self := fun _ _ _ _ _ st h => wpAny_pyIter_striter_ascii st h
theorem turn_strW {P : Program} {w : World} {K : PySem.W.Frag} {tg : Expr} (x : Str) (t : Tok) (it : Addr) : Turn P w K tg (Its x) [it] it (fun i h => h.IsStrIter it "str_iterator" x t i) where
  mem := by simp
  obj := fun i h st b hb => by
    have e : b = it := by simpa using hb
    subst e
    obtain ⟨o, e, c, d⟩ := st
    exact ⟨o, e, fun v z => by rw [d] at z; cases z⟩
  keep := fun i h h' st k => let ⟨o, ho, r⟩ := st; ⟨o, k it (by simp) o ho, r⟩
  item := by
    intro X hP hw hK hc i pins s σ H E I hf st hg
    subst hP hw hK
    obtain ⟨f0, f1, f2, f3, f4, f5⟩ := hf it (by simp)
    have hg : i < x.cps.size := hg
    refine wpAny_pyNext_wide_item st (c := x.cps[i]) (by simp [hg]) fun h' st' sb => ?_
    have I1 : Inv X pins σ H { s with heap := h', toks := s.toks + 1 } := I.turned (fun b o hb e => (sb.2 b hb).trans e) f0 f1 f3 f4 f5
    obtain ⟨o, e, c, d⟩ := id st'
    exact ⟨_, rfl, go_of (s := { s with heap := h', toks := s.toks + 1 }) e c d (by decide) ⟨.str ⟨#[x.cps[i]]⟩, H, I1, ⟨_, rfl⟩, ⟨rfl, _, by simp [hg], rfl⟩, st', fun b hb => (hf b hb).1⟩⟩
  done := by
    intro X hP hw hK hc i pins s σ H E I hf st hg
    subst hP hw hK
    obtain ⟨f0, f1, f2, f3, f4, f5⟩ := hf it (by simp)
    have hg : x.cps.size ≤ i := hg
    exact wpAny_pyNext_wide_end (I.ok.hd hc) st (by simp; omega) fun h' eb => ⟨rfl, I.turned (t' := s.toks) (fun b o hb e => eb b o hb e) f0 f1 f3 f4 f5⟩
  self := fun _ _ _ _ _ st h => wpAny_pyIter_striter_wide st h
def signsD (z : Str) : List Dt := z.cps.toList.map fun c => Dt.str ⟨#[c]⟩
theorem yl_str {K : PySem.W.Frag} {G : Hp} {L : List Addr} {z : Str} : Yl K (Its z) (signsD z) G L where
  go := fun i G1 L1 M1 H1 d g l r e => by
    unfold signsD at e
    rw [List.getElem?_map] at e
    cases q : z.cps.toList[i]? with
    | none => rw [q] at e; cases e
    | some c =>
      rw [q] at e
      cases e
      have hi : i < z.cps.size := by
        have := (List.getElem?_eq_some_iff.mp q).1
        simpa using this
      refine ⟨hi, fun v' H' ⟨eH, c', e', y⟩ => ?_⟩
      subst eH y
      have : c' = c := by
        rw [← Array.getElem?_toList, q] at e'
        exact (Option.some.inj e').symm
      subst this
      exact ⟨G1, .refl _ _ _, r, rfl⟩
  stop := fun i G1 L1 M1 H1 g l r e => by
    unfold signsD at e
    show z.cps.size ≤ i
    simpa using e
/-! ### what is walked: a list, a tuple, a text -/
def iterD (M : Ms) : Dt → Option (List Dt)
  | .lst xs => some xs
  | .tup xs => some xs
  | .scr ns => some (ns.map .int)
  | .kt xs => some xs
  | .str z => some (signsD z)
  | _ => none
def iSeqD (t : DE) : DA := fun ρ M q x => t ρ M (fun d M1 => match iterD M1 d with
  | some xs => q xs M1
  | none => False) x
section
variable {X : Cx} {R : St → XK} {tg e : Expr} {te : DE}
theorem it_list {pins : List (Addr × Obj)} {σ : St} {H : Hp} {s : Shared} {a : Addr} {vs : List V} {Q : It → Hp → Prop} {E : Value → Shared → Prop} (I : Inv X pins σ H s) (hq : SqL X.K H a vs) (q : Q (Itl X.K a) H) : wpAny (model X.prog X.w) X.A (pyIter (.ref a)) (PIE X pins σ tg Q) E s := by
  obtain ⟨its, rv, p, hz⟩ := I.list hq
  refine wpAny_pyIter_list p.isList ?_
  refine ⟨s.heap.objs.size, [s.heap.objs.size], _, _, H, rfl, I.kept (t' := s.toks) fun b o e => Heap.get?_push_of_some _ e, turn_list a _, ⟨_, Heap.get?_push_size _ rfl, rfl, rfl⟩, fun b hb => ?_, q⟩
  have e : b = s.heap.objs.size := by simpa using hb
  subst e
  exact I.fpOk (Nat.le_refl _) (I.hok.fresh (Nat.le_refl _))
theorem it_tup {pins : List (Addr × Obj)} {σ : St} {H : Hp} {s : Shared} {a : Addr} {vs : List V} {Q : It → Hp → Prop} {E : Value → Shared → Prop} (I : Inv X pins σ H s) (hq : SqT X.K H a vs) (q : Q (Itt X.K a) H) : wpAny (model X.prog X.w) X.A (pyIter (.ref a)) (PIE X pins σ tg Q) E s := by
  obtain ⟨its, rv, p, hz⟩ := I.tuple hq
  refine wpAny_pyIter_tuple (show s.heap.IsTuple a its.toArray from p) ?_
  refine ⟨s.heap.objs.size, [s.heap.objs.size], _, _, H, rfl, I.kept (t' := s.toks) fun b o e => Heap.get?_push_of_some _ e, turn_tuple a _, ⟨_, Heap.get?_push_size _ rfl, rfl, rfl⟩, fun b hb => ?_, q⟩
  have e : b = s.heap.objs.size := by simpa using hb
  subst e
  exact I.fpOk (Nat.le_refl _) (I.hok.fresh (Nat.le_refl _))
theorem it_str {pins : List (Addr × Obj)} {σ : St} {H : Hp} {s : Shared} {z : Str} {t : Tok} {Q : It → Hp → Prop} {E : Value → Shared → Prop} (I : Inv X pins σ H s) (q : Q (Its z) H) : wpAny (model X.prog X.w) X.A (pyIter (.str z t)) (PIE X pins σ tg Q) E s := by
  have fp : ∀ b ∈ [s.heap.objs.size], FpOk X pins H b := fun b hb => by
    have e : b = s.heap.objs.size := by simpa using hb
    subst e
    exact I.fpOk (Nat.le_refl _) (I.hok.fresh (Nat.le_refl _))
  cases ha : z.cps.all (· < 128)
  · exact wpAny_pyIter_wide ha ⟨s.heap.objs.size, [s.heap.objs.size], _, _, H, rfl, I.kept (t' := s.toks) fun b o e => Heap.get?_push_of_some _ e, turn_strW z t _, ⟨_, Heap.get?_push_size _ rfl, rfl, rfl⟩, fp, q⟩
  · exact wpAny_pyIter_ascii ha ⟨s.heap.objs.size, [s.heap.objs.size], _, _, H, rfl, I.kept (t' := s.toks) fun b o e => Heap.get?_push_of_some _ e, turn_strA z t _, ⟨_, Heap.get?_push_size _ rfl, rfl, rfl⟩, fp, q⟩
end
/-! ### the law's own promise -/
def TLaw : DF := fun ds _ q _ => ∃ ns : List Int, ds = [.scr ns] ∧ ns.length ≤ 63 ∧ ∀ M', q (.bl true) M'
def spLaw (K : PySem.W.Frag) : Sp := fun vs H Q _ => ∃ (a : Addr) (ns : List Int), vs = [.ref a] ∧ SqL K H a (ns.map V.int) ∧ ns.length ≤ 63 ∧ ∀ H', Q (.bl true) H'
theorem law_of {P : Program} {w : World} {K : PySem.W.Frag} {mg : Str → Option Value} {base : Heap} {k : Nat} {f : Addr} {fd : FuncData} {x : Str} (F : FnOk P w K mg base (CX1 P w) k f fd [x] (spD K TLaw)) : FnOk P w K mg base CX0 k f fd [x] (spLaw K) := by
  have sp : ∀ vs H Q E, spLaw K vs H Q E → spD K TLaw vs H Q E0 := by
    rintro vs H Q E ⟨a, ns, rfl, hS, hl, hQ⟩
    refine ⟨H, [], [.scr ns], [], fun d _ => d = .bl true, fun _ _ _ => False, ⟨.refl _, rfl, List.nodup_nil, fun k a m h => by simp at h⟩, ⟨_, _, rfl, ⟨a, rfl, hS⟩, rfl⟩, ⟨ns, rfl, hl, fun _ => rfl⟩, fun v H' ⟨d, G', L', M', _, _, n, e⟩ => ?_, fun _ _ _ _ _ _ _ h => h.elim⟩
    subst e
    rw [show v = V.bl true from n]
    exact hQ H'
  refine ⟨fun vs H Q E h => F.len vs H Q E0 (sp vs H Q E h), fun A outer s H args us vs Q E hr he hb hv h => codeAny_mono (F.run A outer s H args us vs Q E0 hr he hb hv (sp vs H Q E h)) fun r s' hq => ?_⟩
  cases r with
  | error e =>
    obtain ⟨_, _, _, _, _, _, _, _, hE⟩ := hq
    exact hE.elim
  | ok fl => cases fl <;> exact hq
end L2
namespace L2
open PySem PySem.Spec PyProof.Rows
/-! ### while, a, b = .. -/
def sWhile (c : DT) (tb : DS) : DS := fun Dn ρ M => ∃ W : Nat → En → Ms → Prop, (∃ m, W m ρ M) ∧ ∀ m ρ M, W m ρ M →
  c ρ M (fun b M1 => (b = true → ∃ N : En → Ms → Prop, (∀ ρ' M', N ρ' M' → ∃ m', m' < m ∧ W m' ρ' M') ∧ tb { Dn with nx := N, ct := N, bk := Dn.nx } ρ M1) ∧ (b = false → Dn.nx ρ M1)) Dn.x
def sPar (i j : Nat) (t : DA) : DS := fun Dn ρ M => t ρ M (fun ds M1 => match ds with
  | [a, b] => Dn.nx ((ρ.set i (some a)).set j (some b)) M1
  | _ => False) Dn.x
section
variable {X : Cx} {R : St → XK} {c a b : Expr} {body : List Stmt} {tc : DT} {tb : DS} {pos : Pos}
theorem js_while (hc : JT X R c tc) (hb : JSs X R body tb) (hp : PassesOwn (model X.prog X.w) X.A X.env X.xe := by first | exact PassesOwn.never | exact PassesOwn.leaving) : JS X R (.While c body [] pos) (sWhile tc tb) := .of (ps_while hp hc hb) fun σ H G L ρ M Dn rl n h hx => by
  obtain ⟨W, ⟨m0, w0⟩, turn⟩ := h
  refine ⟨fun m σ' H' => FinN X.K G L H (W m) σ' H', ⟨m0, ρ, G, L, M, .refl _ _ _, rl, n, w0⟩, fun m σ' H' ⟨ρ', G', L', M', e', r', n', w'⟩ => ?_⟩
  refine ⟨G', L', ρ', M', _, _, r', n', turn m ρ' M' w', hx.on e', fun v H1 ⟨G1, L1, M1, e1, r1, h1⟩ => ?_⟩
  cases v with
  | true =>
    obtain ⟨N, hN, hb⟩ := h1.1 rfl
    refine iteT ⟨FinN X.K G L H N, fun σ2 H2 ⟨ρ2, G2, L2, M2, e2, r2, n2, h2⟩ => ?_, ?_⟩
    · obtain ⟨m', hm, w2⟩ := hN ρ2 M2 h2
      exact ⟨m', hm, ρ2, G2, L2, M2, e2, r2, n2, w2⟩
    · have e01 := e'.trans e1
      exact ⟨G1, L1, ρ', M1, _, r1, n'.mono e1, hb, hx.on e01, ⟨fun _ _ f => FinN.back e01 f, fun _ _ f => Fin.back e01 f, fun _ _ f => FinN.back e01 f, fun _ _ f => FinN.back e01 f⟩⟩
  | false => exact iteF ⟨ρ', G1, L1, M1, e'.trans e1, r1, n'.mono e1, h1.2 rfl⟩
theorem js_par {i j : Nat} {x y : Str} {t : DA} {px py pt : Pos} {kt k2 pt2} (hN : X.N.Nodup) (hi : X.N[i]? = some x) (hj : X.N[j]? = some y) (ha : JA X R [a, b] t) (hij : i ≠ j := by decide)
    (hx : X.env.scope.names.lookup x = some .local := by rfl) (hy : X.env.scope.names.lookup y = some .local := by rfl)
    (hw : swappedStores [.Tuple [.Name x px, .Name y py] kt pt] (.Tuple [a, b] k2 pt2) X.env = pure (some [x, y]) := by rfl) (hc : X.calm = true := by rfl)
    (hs : swapsWithSole [.Tuple [.Name x px, .Name y py] kt pt] (.Tuple [a, b] k2 pt2) pos.line X.env = pure false := by rfl) :
    JS X R (.Assign [.Tuple [.Name x px, .Name y py] kt pt] (.Tuple [a, b] k2 pt2) pos) (sPar i j t) := .of (ps_par hc hN hi hj hij hx hy ha hw hs) fun σ H G L ρ M Dn rl n h hx => by
  refine ⟨G, L, ρ, M, _, _, rl, n, h, hx, fun vs H1 ⟨ds, G1, L1, M1, e1, r1, n1, h1⟩ => ?_⟩
  (try dsimp only at h1)
  split at h1
  · obtain ⟨v, u, rfl, m1, m2⟩ := denL_two n1
    exact ⟨v, u, rfl, _, G1, L1, M1, e1, r1, ((n.mono e1).set i m1).set j m2, h1⟩
  · exact h1.elim
end
/-! ### by their names -/
section
variable {X : Cx} {R : St → XK} {e e2 o : Expr} {es : List Expr} {t : DA} {to ta tb : DE} {a b : Expr} {p pos apos cpos : Pos}
theorem j_abs (hm : X.mg "abs" = none) (ha : JA X R [e] t) (he : starEach [e] X.env = (false, eval e X.env) :: starEach [] X.env := by rfl) (hpl : (backTo pos (starEach [] X.env)).any (·.1) = false := by rfl) (hg : Gl X "abs" := by rfl) : JE X R (.Call (.Name "abs" p) [e] [] pos) (dFn fAbs t) :=
  j_callB call_abs absD hm boot_abs' ha hg (by decide) (by decide) he hpl
theorem j_min (hm : X.mg "min" = none) (ha : JA X R [e, e2] t) (hc : X.calm = true := by rfl) (he : starEach [e, e2] X.env = (false, eval e X.env) :: starEach [e2] X.env := by rfl) (hpl : (backTo pos (starEach [e2] X.env)).any (·.1) = false := by rfl) (hg : Gl X "min" := by rfl) : JE X R (.Call (.Name "min" p) [e, e2] [] pos) (dFn fMin t) :=
  j_callB (call_min2 hc) minD hm boot_min' ha hg (by decide) (by decide) he hpl
def dSM (f : Dt → List Dt → Ms → DQ → Prop) (to : DE) (t : DA) : DE := fun ρ M q x => to ρ M (fun d M1 => (∃ z, d = .str z) ∧ t ρ M1 (fun ds M2 => f d ds M2 q) x) x
end
end L2
namespace L2
open PySem PySem.Spec PyProof.Rows
/-! ### readings -/
theorem compD_map {te : DE} {cs : En} {f : Dt → Dt} {M : Ms} {k : List Dt → Ms → Prop} : ∀ (xs acc : List Dt), (∀ x ∈ xs, ∀ q : DQ, q (f x) M → te (some x :: cs) M q noX) → k (acc ++ xs.map f) M → compD te cs xs acc M k
  | [], acc, _, h => by rw [List.map_nil, List.append_nil] at h; exact h
  | x :: xs, acc, ht, h => ht x List.mem_cons_self _ (compD_map xs (acc ++ [f x]) (fun y hy => ht y (List.mem_cons_of_mem _ hy)) (by simpa using h))
theorem fIx_seq {d y : Dt} {xs : List Dt} {i : Int} {M : Ms} {q : DQ} (hs : seqD M d = some xs) (h : atI xs i = some y) (k : q y M) : fIx d (.int i) M q := by
  cases d with
  | str z => cases hs
  | _ =>
    unfold fIx
    simp only [hs, h]
    exact k
theorem fLen_seq {d : Dt} {xs : List Dt} {M : Ms} {q : DQ} (hs : seqD M d = some xs) (k : q (.int xs.length) M) : fLen [d] M q := by
  cases d with
  | str z => cases hs
  | _ =>
    unfold fLen
    simp only [hs]
    exact k
theorem atI_zero {α : Type} {x : α} {xs : List α} : atI (x :: xs) 0 = some x := atI_nat (j := 0) rfl
end L2

set_option Elab.async false
set_option linter.all false
set_option maxRecDepth 100000
set_option maxHeartbeats 4000000
namespace L2
open PySem PySem.Spec PyProof.Rows
/-! ### all -/
def rAll (K : PySem.W.Frag) : List V → Hp → VK → Prop := fun xs H Q => ∃ (p : Addr) (bs : List Bool), xs = [.ref p] ∧ SqL K H p (bs.map V.bl) ∧ Q (.bl (bs.all id)) H
section
variable {X : Cx}
def rPart : V → List V → Hp → VK → Prop := fun x xs H Q => ∃ z y, x = .str z ∧ xs = [.str y] ∧ (y.length == 0) = false ∧ z.length ≤ sizeLine ∧ ∀ p, H p = none → Q (.ref p) (upd H p (.tup [.str (Txt.partition z y).1, .str (Txt.partition z y).2.1, .str (Txt.partition z y).2.2]))
end
/-! ### by data -/
def fAll : List Dt → Ms → DQ → Prop
  | [.lst xs], M, q => ∃ bs : List Bool, xs = bs.map Dt.bl ∧ q (.bl (bs.all id)) M
  | _, _, _ => False
def fPart : Dt → List Dt → Ms → DQ → Prop
  | .str z, [.str y], M, q => ((y.length == 0) = false ∧ z.length ≤ sizeLine) ∧ q (.tup [.str (Txt.partition z y).1, .str (Txt.partition z y).2.1, .str (Txt.partition z y).2.2]) M
  | _, _, _, _ => False
/-- a, b, c = e -/
def sUnp3 (i j k : Nat) (t : DE) : DS := fun Dn ρ M => t ρ M (fun d M1 => match d with
  | .tup [a, b, c] => Dn.nx (((ρ.set i (some a)).set j (some b)).set k (some c)) M1
  | _ => False) Dn.x
def sUnp2 (i j : Nat) (t : DE) : DS := fun Dn ρ M => t ρ M (fun d M1 => match d with
  | .tup [a, b] => Dn.nx ((ρ.set i (some a)).set j (some b)) M1
  | _ => False) Dn.x
section
variable {X : Cx} {R : St → XK} {e o : Expr} {es : List Expr} {t : DA} {to te : DE} {p pos apos cpos : Pos}
variable {i j k : Nat} {tg : Expr}
end
/-! ### try: body, except D as n: suite -/
def goesE (i : Nat) (Dn : DEnds) : DEnds := ⟨fun ρ M => Dn.nx (ρ.set i none) M, Dn.rt, fun ρ M => Dn.bk (ρ.set i none) M, fun ρ M => Dn.ct (ρ.set i none) M, noX⟩
def sTryE (K : PySem.W.Frag) (D : Addr) (i : Nat) (CC : Addr → Prop) (tb : DS) (ts : Addr → Addr → DS) : DS := fun Dn ρ M =>
  tb { Dn with x := fun ρ' C fs M' => fs = [] ∧ CC C ∧ PySem.W.subIn K (.ref C) (.ref D) = some true ∧ ∀ x, ts x C (goesE i Dn) (ρ'.set i (some (.ref x))) M' } ρ M
section
variable {X : Cx} {R : St → XK} {body : List Stmt} {D : Addr} {dn n : Str} {i : Nat} {b₀ : Stmt} {suite : List Stmt} {pos hpos np : Pos} {tb : DS} {ts : Addr → Addr → DS} {bmB' : List Value} {newId' : String}
end
/-! in the suite -/
def fIsE (K : PySem.W.Frag) (x C : Addr) : List Dt → Ms → DQ → Prop
  | [.ref a, c], M, q => a = x ∧ (match clsD c with
    | some t' => (match PySem.W.kitOne K (.ref C) t' with
      | some b => q (.bl b) M
      | none => False)
    | none => False)
  | _, _, _ => False
section
variable {X : Cx} {R : St → XK} {e e2 : Expr} {t : DA} {p pos : Pos} {x C : Addr}
end
/-! an item of a written list, at a place that is not known -/
end L2

set_option Elab.async false
set_option linter.all false
set_option maxRecDepth 100000
set_option maxHeartbeats 4000000
namespace L2
open PySem PySem.Spec PyProof.Rows
/-! ### things that may change, taken as they stand from now on -/
mutual
def Dt.under (n : Nat) : Dt → Prop
  | .non => True
  | .bl _ => True
  | .int _ => True
  | .str _ => True
  | .tup ds => Dt.underL n ds
  | .lst ds => Dt.underL n ds
  | .obj _ _ ds => Dt.underL n ds
  | .loc k => k < n
  | .ref _ => True
  | .ty _ => True
  | .scr _ => True
  | .kt ds => Dt.underL n ds
def Dt.underL (n : Nat) : List Dt → Prop
  | [] => True
  | d :: ds => Dt.under n d ∧ Dt.underL n ds
end
def MO.under (n : Nat) : MO → Prop
  | .lst ds => Dt.underL n ds
  | .ins _ _ ds => Dt.underL n ds
  | .dct _ ds => Dt.underL n ds
mutual
inductive Frz (n : Nat) (E : Ms) : Dt → Dt → Prop
  | old {d : Dt} (h : d.under n) : Frz n E d d
  | tup {ds es : List Dt} (h : FrzL n E ds es) : Frz n E (.tup ds) (.tup es)
  | lst {ds es : List Dt} (h : FrzL n E ds es) : Frz n E (.lst ds) (.lst es)
  | obj {C : Addr} {ns : List Str} {ds es : List Dt} (h : FrzL n E ds es) : Frz n E (.obj C ns ds) (.obj C ns es)
  | newL {k : Nat} {ds es : List Dt} (hk : n ≤ k) (e : E[k - n]? = some (.lst ds)) (h : FrzL n E ds es) : Frz n E (.loc k) (.lst es)
  | newO {k : Nat} {C : Addr} {ns : List Str} {ds es : List Dt} (hk : n ≤ k) (e : E[k - n]? = some (.ins C ns ds)) (h : FrzL n E ds es) : Frz n E (.loc k) (.obj C ns es)
inductive FrzL (n : Nat) (E : Ms) : List Dt → List Dt → Prop
  | nil : FrzL n E [] []
  | cons {d e : Dt} {ds es : List Dt} (h : Frz n E d e) (t : FrzL n E ds es) : FrzL n E (d :: ds) (e :: es)
end
theorem FrzL.length {n : Nat} {E : Ms} : ∀ {ds es : List Dt}, FrzL n E ds es → ds.length = es.length
  | [], es, h => by cases h; rfl
  | d :: ds, es, h => by
    cases h with
    | cons h t => rw [List.length_cons, List.length_cons, FrzL.length t]
theorem FrzL.old {n : Nat} {E : Ms} : ∀ {ds : List Dt}, Dt.underL n ds → FrzL n E ds ds
  | [], _ => .nil
  | _ :: _, h => .cons (.old h.1) (FrzL.old h.2)
section
variable {K : PySem.W.Frag} {G G' : Hp} {L0 t : List Addr} {n : Nat}
mutual
theorem den_under (hn : L0.length = n) (g : Same G G') : ∀ (d : Dt) (v : V), d.under n → Den K G (L0 ++ t) d v → Den K G' L0 d v
  | .non, _, _, h => h
  | .bl _, _, _, h => h
  | .int _, _, _, h => h
  | .str _, _, _, h => h
  | .tup ds, _, u, ⟨a, vs, e, h1, h2⟩ => ⟨a, vs, e, g _ _ h1, denL_under hn g ds vs u h2⟩
  | .lst ds, _, u, ⟨a, vs, e, h1, h2⟩ => ⟨a, vs, e, g _ _ h1, denL_under hn g ds vs u h2⟩
  | .obj C ns ds, _, u, ⟨a, dx, vs, e, h1, hl, h2⟩ => ⟨a, dx, vs, e, g _ _ h1, hl, denL_under hn g ds vs u h2⟩
  | .loc k, _, u, ⟨a, e, h1⟩ => ⟨a, e, by
      have u : k < n := u
      rwa [List.getElem?_append_left (by rw [hn]; exact u)] at h1⟩
  | .ref _, _, _, h => h
  | .ty _, _, _, h => h
  | .scr _, _, _, ⟨a, e, h1⟩ => ⟨a, e, g.seq h1⟩
  | .kt ds, _, u, ⟨a, vs, e, h1, h2⟩ => ⟨a, vs, e, g.sqT h1, denL_under hn g ds vs u h2⟩
theorem denL_under (hn : L0.length = n) (g : Same G G') : ∀ (ds : List Dt) (vs : List V), Dt.underL n ds → DenL K G (L0 ++ t) ds vs → DenL K G' L0 ds vs
  | [], _, _, h => h
  | d :: ds, _, u, ⟨v, r, e, h1, h2⟩ => ⟨v, r, e, den_under hn g d v u.1 h1, denL_under hn g ds r u.2 h2⟩
end
theorem mok_under {H : Hp} {a : Addr} (hn : L0.length = n) (g : Same G G') {m : MO} (u : m.under n) (h : MOk K G (L0 ++ t) H a m) : MOk K G' L0 H a m := by
  cases m with
  | lst ds => obtain ⟨vs, e, h⟩ := h; exact ⟨vs, e, denL_under hn g _ _ u h⟩
  | ins C ns ds => obtain ⟨dx, vs, e, hl, h⟩ := h; exact ⟨dx, vs, e, hl, denL_under hn g _ _ u h⟩
  | dct ks ds => obtain ⟨vs, e, hl, h⟩ := h; exact ⟨vs, e, hl, denL_under hn g _ _ u h⟩
end
open Classical in
noncomputable def over (G H : Hp) (t : List Addr) : Hp := fun b => if b ∈ t then H b else G b
theorem over_in {G H : Hp} {t : List Addr} {b : Addr} (h : b ∈ t) : over G H t b = H b := by unfold over; rw [if_pos h]
theorem over_out {G H : Hp} {t : List Addr} {b : Addr} (h : b ∉ t) : over G H t b = G b := by unfold over; rw [if_neg h]
section
variable {K : PySem.W.Frag} {G : Hp} {L0 t : List Addr} {M0 E : Ms} {H : Hp}
theorem over_same (r : Rl K G (L0 ++ t) (M0 ++ E) H) : Same G (over G H t) := fun b u e => by
  by_cases hb : b ∈ t
  · obtain ⟨_, _, _, _, g, _⟩ := r.at_mem (a := b) (List.mem_append_right _ hb)
    rw [g] at e; cases e
  · rw [over_out hb]; exact e
theorem frz_at (r : Rl K G (L0 ++ t) (M0 ++ E) H) (hn : L0.length = M0.length) {k : Nat} {a : Addr} {m : MO} (hk : M0.length ≤ k) (e : (L0 ++ t)[k]? = some a) (em : E[k - M0.length]? = some m) : over G H t a = H a ∧ MOk K G (L0 ++ t) H a m := by
  have e2 : (M0 ++ E)[k]? = some m := by rw [List.getElem?_append_right hk]; exact em
  obtain ⟨_, q⟩ := r.ats k a m e e2
  rw [List.getElem?_append_right (by rw [hn]; exact hk)] at e
  exact ⟨over_in (List.mem_of_getElem? e), q⟩
theorem frz_den (r : Rl K G (L0 ++ t) (M0 ++ E) H) (hn : L0.length = M0.length) {d d' : Dt} (f : Frz M0.length E d d') : ∀ v, Den K G (L0 ++ t) d v → Den K (over G H t) L0 d' v := by
  refine Frz.rec (motive_1 := fun d d' _ => ∀ v, Den K G (L0 ++ t) d v → Den K (over G H t) L0 d' v) (motive_2 := fun ds es _ => ∀ vs, DenL K G (L0 ++ t) ds vs → DenL K (over G H t) L0 es vs) ?_ ?_ ?_ ?_ ?_ ?_ ?_ ?_ f
  · exact fun {d} u v h => den_under hn (over_same r) d v u h
  · exact fun {ds es} f ih v ⟨a, vs, e, h1, h2⟩ => ⟨a, vs, e, over_same r _ _ h1, ih vs h2⟩
  · exact fun {ds es} f ih v ⟨a, vs, e, h1, h2⟩ => ⟨a, vs, e, over_same r _ _ h1, ih vs h2⟩
  · exact fun {C ns ds es} f ih v ⟨a, dx, vs, e, h1, hl, h2⟩ => ⟨a, dx, vs, e, over_same r _ _ h1, hl.trans f.length, ih vs h2⟩
  · intro k ds es hk em f ih v ⟨a, e, h1⟩
    obtain ⟨o, vs, e1, h2⟩ := frz_at r hn hk h1 em
    exact ⟨a, vs, e, o.trans e1, ih vs h2⟩
  · intro k C ns ds es hk em f ih v ⟨a, e, h1⟩
    obtain ⟨o, dx, vs, e1, hl, h2⟩ := frz_at r hn hk h1 em
    exact ⟨a, dx, vs, e, o.trans e1, hl.trans f.length, ih vs h2⟩
  · exact fun vs h => h
  · exact fun {d e ds es} f t ih1 ih2 vs ⟨v, r, e, h1, h2⟩ => ⟨v, r, e, ih1 v h1, ih2 r h2⟩
end
def frzQ (n : Nat) (q : DQ) : DQ := fun d M => ∃ M' E d', M = M' ++ E ∧ M'.length = n ∧ (∀ m ∈ M', MO.under n m) ∧ Frz n E d d' ∧ q d' M'
theorem Fin.frz {K : PySem.W.Frag} {G0 : Hp} {L0 : List Addr} {M0 : Ms} {H0 : Hp} {q : DQ} {v : V} {H : Hp} (r0 : Rl K G0 L0 M0 H0) (f : Fin K G0 L0 H0 (frzQ M0.length q) v H) : Fin K G0 L0 H0 q v H := by
  obtain ⟨d, G, L, M, ex, r, dn, M', E, d', rfl, hl, hu, fz, hq⟩ := f
  obtain ⟨t, rfl⟩ := ex.l
  have hn : L0.length = M'.length := by rw [hl]; exact r0.len
  have dis : ∀ b, b ∈ L0 → b ∉ t := fun b h1 h2 => (List.nodup_append.mp r.nd).2.2 b h1 b h2 rfl
  have sm := over_same r
  refine ⟨d', over G H t, L0, M', ⟨ex.g.trans sm, .refl _, fun b h1 h2 => ?_, ex.out, fun b h => .inl h, ex.dom⟩, ⟨fun b u e => ?_, hn, (List.nodup_append.mp r.nd).1, fun k a m h1 h2 => ?_⟩, frz_den r hn (hl ▸ fz) v dn, hq⟩
  · have hb : b ∉ t := fun z => (ex.new b (List.mem_append_right _ z)).elim (fun y => dis b y z) h2
    rw [over_out hb]; exact ex.fr b h1 h2
  · by_cases hb : b ∈ t
    · rw [over_in hb] at e; exact e
    · rw [over_out hb] at e; exact r.sub b u e
  · have k1 : k < L0.length := (List.getElem?_eq_some_iff.mp h1).1
    have e1 : (L0 ++ t)[k]? = some a := by rw [List.getElem?_append_left k1]; exact h1
    have e2 : (M' ++ E)[k]? = some m := by rw [List.getElem?_append_left (by rw [← hn]; exact k1)]; exact h2
    obtain ⟨g, q⟩ := r.ats k a m e1 e2
    exact ⟨by rw [over_out (dis a (List.mem_of_getElem? h1))]; exact g, mok_under (n := M'.length) hn sm (by rw [hl]; exact hu m (List.mem_of_getElem? h2)) q⟩
def dFrz (t : DE) : DE := fun ρ M q x => t ρ M (frzQ M.length q) x
def frzT (T : DF) : DF := fun ds M q x => T ds M (frzQ M.length q) x
section
variable {X : Cx} {R : St → XK} {e : Expr} {t : DE}
theorem js_never {st : Stmt} : JS X R st (fun _ _ _ => False) := fun _ _ _ _ _ _ ⟨_, _, _, _, _, _, _, h, _, _⟩ => h.elim
end
end L2

set_option Elab.async false
set_option linter.all false
set_option maxRecDepth 100000
set_option maxHeartbeats 4000000
namespace L2
open PySem PySem.Spec PyProof.Rows
/-! ### objects -/
def tMethR (C : Addr) (m : Str) (sp : Sp) (dvs : List V) (R : St → XK) (ta : TE) (t : TA) : TE := fun σ H Q => ta σ H fun x H1 => ∃ a dx fs, x = .ref a ∧ H1 a = some (.ins C dx fs) ∧ fs.lookup m = none ∧
  t σ H1 fun vs H2 => sp (x :: (vs ++ dvs)) H2 Q (R σ)
def tMakeR (C : Addr) (sp : Sp) (dvs : List V) (R : St → XK) (t : TA) : TE := fun σ H Q => t σ H fun vs H1 => ∀ x dx, H1 x = none → H1 dx = none → dx ≠ x →
  sp (.ref x :: (vs ++ dvs)) (upd (upd H1 dx (.own x)) x (.ins C dx [])) (fun v H2 => v = .non ∧ Q (.ref x) H2) (R σ)
section
variable {X : Cx} {CX : CXT} {k : Nat} {f C : Addr} {fd : FuncData} {ps : List Str} {sp : Sp} {dvs : List V} {ds : List Value} {R : St → XK} {x m : Str} {p pos apos : Pos} {e o : Expr} {es : List Expr} {ta : TE} {t : TA}
end
/-- what an object holds, whether it may still change or not -/
def ObAt (C : Addr) (M : Ms) (d : Dt) (ns : List Str) (ds : List Dt) : Prop := d = .obj C ns ds ∨ ∃ k, d = .loc k ∧ M[k]? = some (.ins C ns ds)
section
variable {K : PySem.W.Frag} {G : Hp} {L : List Addr} {M : Ms} {H : Hp} {C : Addr} {d : Dt} {v : V} {ns : List Str} {ds : List Dt}
end
def dFld (C : Addr) (f : Str) (t : DE) : DE := fun ρ M q x => t ρ M (fun d M1 => ∃ ns ds v, ObAt C M1 d ns ds ∧ (ns.zip ds).lookup f = some v ∧ q v M1) x
def dMeth (C : Addr) (m : Str) (T : DF) (to : DE) (ta : DA) : DE := fun ρ M q x => to ρ M (fun d M1 => (∃ ns ds, ObAt C M1 d ns ds ∧ (ns.zip ds).lookup m = none) ∧ ta ρ M1 (fun ds M2 => T (d :: ds) M2 q (fun C fs M' => x ρ C fs M')) x) x
def dMake (C : Addr) (T : DF) (ta : DA) : DE := fun ρ M q x => ta ρ M (fun ds M1 => T (.loc M1.length :: ds) (M1 ++ [.ins C [] []]) (fun d M2 => d = .non ∧ q (.loc M1.length) M2) (fun C fs M' => x ρ C fs M')) x
def sFldN (C : Addr) (f : Str) (to tv : DE) : DS := fun Dn ρ M => tv ρ M (fun y M1 => to ρ M1 (fun d M2 => ∃ k ns ds, d = .loc k ∧ M2[k]? = some (.ins C ns ds) ∧ f ∉ ns ∧ ns.length < 1000 ∧ Dn.nx ρ (M2.set k (.ins C (ns ++ [f]) (ds ++ [y])))) Dn.x) Dn.x
/-- a method that is called: its promise, its parameters -/
structure MetD (P : Program) (w : World) (K : PySem.W.Frag) (mg : Str → Option Value) (base : Heap) (k : Nat) (C : Addr) (m : Str) (ps : List Str) (T : DF) (f : Addr) (fd : FuncData) : Prop where
  ok : FnOk P w K mg base (CX1 P w) k f fd ps (spD K T)
  b : Binds K fd ps []
  c : Cls K C
  m : Meth K C m f
/-- a class that is called -/
structure MakD (P : Program) (w : World) (K : PySem.W.Frag) (mg : Str → Option Value) (base : Heap) (k : Nat) (x : Str) (C : Addr) (ps : List Str) (T : DF) (f : Addr) (fd : FuncData) : Prop where
  ok : FnOk P w K mg base (CX1 P w) k f fd ps (spD K T)
  b : Binds K fd ps []
  k : Mk K C f
  m : mg x = some (.ref C)
section
variable {X : Cx} {R : St → XK} {C : Addr} {f m x : Str} {T : DF} {k k' : Nat} {a : Addr} {fd : FuncData} {ps : List Str} {e o value : Expr} {es : List Expr} {pos pos' apos p : Pos} {to te tv : DE} {ta : DA}
end
end L2

set_option Elab.async false
set_option linter.all false
set_option maxRecDepth 100000
set_option maxHeartbeats 4000000
namespace L2
open PySem PySem.Spec PyProof.Rows
/-! ### list(..), .append(..), [i] = .. -/
def fList : List Dt → Ms → DQ → Prop
  | [d], M, q => match seqD M d with
    | some xs => q (.loc M.length) (M ++ [.lst xs])
    | none => False
  | _, _, _ => False
section
variable {K : PySem.W.Frag}
theorem listD : CaD K (fun xs H Q => ∃ p ys, xs = [V.ref p] ∧ (SqL K H p ys ∨ SqT K H p ys) ∧ ∀ l, H l = none → Q (.ref l) (upd H l (.lst ys))) fList := by
  intro G0 L0 H0 G L M H vs ds q e r n h
  unfold fList at h
  split at h
  · rename_i d
    obtain ⟨v, rfl, n1⟩ := denL_one n
    split at h
    · rename_i xs hs
      obtain ⟨a, us, rfl, hq, dn⟩ := seqD_is r n1 hs
      exact ⟨a, us, rfl, hq, fun l hl => fin_loc e r hl dn h⟩
    · exact h.elim
  · exact h.elim
end
section
variable {X : Cx} {R : St → XK} {e o i value : Expr} {t : DA} {to ti tv : DE} {p pos apos cpos tpos : Pos}
theorem j_list (hm : X.mg "list" = none) (ha : JA X R [e] t) (hg : Gl X "list" := by rfl) (he : starEach [e] X.env = (false, eval e X.env) :: starEach [] X.env := by rfl) (hpl : (backTo pos (starEach [] X.env)).any (·.1) = false := by rfl) : JE X R (.Call (.Name "list" p) [e] [] pos) (dFn fList t) :=
  j_callTy call_list_of listD hm boot_list' ha hg (by decide) (by decide) he hpl
def dApp (to : DE) (t : DA) : DE := fun ρ M q x => to ρ M (fun d M1 => (∃ k xs, d = .loc k ∧ M1[k]? = some (.lst xs)) ∧ t ρ M1 (fun ds M2 => ∃ k xs y, d = .loc k ∧ ds = [y] ∧ M2[k]? = some (.lst xs) ∧ xs.length < sizeLine ∧ q .non (M2.set k (.lst (xs ++ [y])))) x) x
theorem j_append (ho : JE X R o to) (ha : JA X R [e] t) (hbase : attributeBase o "append" X.env (eval o X.env) = eval o X.env := by rfl)
    (hfew : ((backTo cpos (starEach [e] X.env)).all (fun x => !x.1) && (backToKw cpos (keywordEach [] X.env)).all (fun x => x.1.isSome)
      && decide (([e] : List Expr).length + ([] : List Keyword).length + (if ([] : List Keyword).isEmpty then 0 else 1) < 30)) = true := by rfl)
    (hline : (apos.endLine == cpos.line) = true := by rfl) (hs : starEach [e] X.env = (false, eval e X.env) :: starEach [] X.env := by rfl) (hplain : (backTo cpos (starEach [] X.env)).any (·.1) = false := by rfl) :
    JE X R (.Call (.Attribute o "append" apos) [e] [] cpos) (dApp to t) :=
  .of (pe_bm PySem.F.plainAttrs_list PySem.F.slot_list_append PySem.F.type_list_append (r := rAppend) mt_append ho ha hbase hfew hline hs hplain) fun σ H G L ρ M q x rl n h hx => by
    refine ⟨G, L, ρ, M, _, x, rl, n, h, hx, fun v H1 ⟨d1, G1, L1, M1, e1, r1, n1, ⟨k, xs, ed, hm⟩, h1⟩ => ?_⟩
    subst ed
    obtain ⟨a, rfl, hk⟩ := n1
    obtain ⟨_, vs, hH, _⟩ := r1.ats k a _ hk hm
    refine ⟨.inl ⟨rfl, vs, .of hH⟩, G1, L1, ρ, M1, _, x, r1, n.mono e1, h1, hx.on e1, fun us H2 ⟨ds, G2, L2, M2, e2, r2, n2, k', xs', y, ek, ed, hm2, hz, h2⟩ => ?_⟩
    cases ek
    subst ed
    obtain ⟨u, rfl, n3⟩ := denL_one n2
    have hk2 := e2.l.get hk
    obtain ⟨_, vs2, hH2, dn2⟩ := r2.ats k a _ hk2 hm2
    refine ⟨a, vs2, u, rfl, rfl, hH2, by rw [← dn2.length]; exact hz, .non, G2, L2, _, (e1.trans e2).trans (r2.exS hk2), r2.setM (m := .lst (xs' ++ [y])) hk2 ⟨_, upd_same, dn2.app ⟨_, _, rfl, n3, rfl⟩⟩, rfl, h2⟩
def sSetIx (to ti tv : DE) : DS := fun Dn ρ M => tv ρ M (fun y M1 => to ρ M1 (fun d M2 => ti ρ M2 (fun di M3 => ∃ k i xs j, d = .loc k ∧ di = .int i ∧ M3[k]? = some (.lst xs) ∧ ixN xs.length i = some j ∧ Dn.nx ρ (M3.set k (.lst (xs.set j y)))) Dn.x) Dn.x) Dn.x
theorem js_setix (ho : JE X R o to) (hi : JE X R i ti) (hv : JE X R value tv) (hs : swapsWithSole [.Subscript o i tpos] value pos.line X.env = pure false := by rfl) (hw : swappedStores [.Subscript o i tpos] value X.env = pure none := by rfl)
    (h1 : (assignEach [.Subscript o i tpos] X.env).map (·.2) = [assign (.Subscript o i tpos) X.env] := by rfl)
    (ha : ∀ v, assign (.Subscript o i tpos) X.env v = (do
      let ov ← holding [v] (eval o X.env)
      let iv ← holding [v, ov] (eval i X.env)
      standAt tpos
      holding [v, ov, iv] (setItem ov iv v)
      release [v, ov, iv] []) := by intro _; rfl) : JS X R (.Assign [.Subscript o i tpos] value pos) (sSetIx to ti tv) :=
  .of (ps_asg hv (pg_sub (t := rSetL) ho hi set_list ha) hs hw h1) fun σ H G L ρ M Dn rl n h hx => by
    refine ⟨G, L, ρ, M, _, _, rl, n, h, hx, fun v H1 ⟨dv, G1, L1, M1, e1, r1, n1, h1⟩ => ?_⟩
    refine ⟨G1, L1, ρ, M1, _, _, r1, n.mono e1, h1, hx.on e1, fun ov H2 ⟨d, G2, L2, M2, e2, r2, n2, h2⟩ => ?_⟩
    refine ⟨G2, L2, ρ, M2, _, _, r2, (n.mono e1).mono e2, h2, (hx.on e1).on e2, fun iv H3 ⟨di, G3, L3, M3, e3, r3, n3, k, i, xs, j, ed, ei, hm, hj, h3⟩ => ?_⟩
    subst ed ei
    obtain ⟨a, rfl, hk⟩ := n2
    have n3 : iv = .int i := n3
    subst n3
    have hk3 := e3.l.get hk
    obtain ⟨_, vs, hH, dn⟩ := r3.ats k a _ hk3 hm
    have e23 := e2.trans e3
    have dv3 := Den.mono e23.g e23.l _ _ n1
    refine ⟨a, vs, i, j, rfl, rfl, hH, by rw [← dn.length]; exact hj, ρ, G3, L3, _, ((e1.trans e2).trans e3).trans (r3.exS hk3), r3.setM (m := .lst (xs.set j dv)) hk3 ⟨_, upd_same, .of (prd_set dv3 j dn.pair)⟩, (((n.mono e1).mono e2).mono e3).mono (r3.exS (o := .own a) hk3), h3⟩
end
/-! ### what is walked, when it may change -/
abbrev DK := En → Ms → (List Dt → (Ms → Prop) → Ms → Prop) → DX → Prop
structure YlK (K : PySem.W.Frag) (J : It) (xs : List Dt) (ok : Ms → Prop) (G0 : Hp) (L0 : List Addr) : Prop where
  go : ∀ (i : Nat) G L M H (d : Dt), Same G0 G → Pre L0 L → Rl K G L M H → ok M → xs[i]? = some d → J.go i H ∧ ∀ v H', J.yld i H v H' → ∃ G', Ex G L H G' L H' ∧ Rl K G' L M H' ∧ Den K G' L d v
  stop : ∀ (i : Nat) G L M H, Same G0 G → Pre L0 L → Rl K G L M H → ok M → xs.length ≤ i → J.stop i H
inductive FinK (K : PySem.W.Frag) (G0 : Hp) (L0 : List Addr) (H0 : Hp) (q : List Dt → (Ms → Prop) → Ms → Prop) (J : It) (H : Hp) : Prop
  | mk (xs : List Dt) (ok : Ms → Prop) (G : Hp) (L : List Addr) (M : Ms) (e : Ex G0 L0 H0 G L H) (r : Rl K G L M H) (y : YlK K J xs ok G L) (h : q xs ok M)
inductive lowK (K : PySem.W.Frag) (R : St → XK) (t : DK) (σ : St) (H : Hp) (Q : It → Hp → Prop) : Prop
  | mk (G : Hp) (L : List Addr) (ρ : En) (M : Ms) (q : List Dt → (Ms → Prop) → Ms → Prop) (x : DX) (r : Rl K G L M H) (n : EnD K G L ρ σ) (h : t ρ M q x) (hx : XOk K G L H R x) (hQ : ∀ J H1, FinK K G L H q J H1 → Q J H1)
def JK (X : Cx) (R : St → XK) (tg iter : Expr) (t : DK) : Prop := PI X tg iter (lowK X.K R t)
def kOf (t : DA) : DK := fun ρ M q x => t ρ M (fun xs M1 => q xs (fun _ => True) M1) x
/-- a list that stays as it is while it is walked -/
structure Src (K : PySem.W.Frag) (a : Addr) (xs : List Dt) (ok : Ms → Prop) (G0 : Hp) (L0 : List Addr) : Prop where
  at_ : ∀ G L M H, Same G0 G → Pre L0 L → Rl K G L M H → ok M → ∃ vs, SqL K H a vs ∧ DenL K G L xs vs
def lstK (M : Ms) : Dt → Option (List Dt × (Ms → Prop))
  | .lst xs => some (xs, fun _ => True)
  | .scr ns => some (ns.map .int, fun _ => True)
  | .loc k => match M[k]? with
    | some (.lst xs) => some (xs, fun M' => M'[k]? = some (.lst xs))
    | _ => none
  | _ => none
theorem src_of {K : PySem.W.Frag} {G : Hp} {L : List Addr} {M : Ms} {H : Hp} {d : Dt} {v : V} {xs : List Dt} {ok : Ms → Prop} (r : Rl K G L M H) (n : Den K G L d v) (h : lstK M d = some (xs, ok)) : ∃ a vs, v = .ref a ∧ SqL K H a vs ∧ Src K a xs ok G L ∧ ok M := by
  cases d with
  | lst ds =>
    cases h
    obtain ⟨a, vs, rfl, e, m⟩ := n
    exact ⟨a, vs, rfl, .of (r.sub _ _ e), ⟨fun G' L' M' H' g l r' _ => ⟨vs, .of (r'.sub _ _ (g _ _ e)), DenL.mono g l _ _ m⟩⟩, trivial⟩
  | scr ns =>
    cases h
    obtain ⟨a, rfl, e⟩ := n
    exact ⟨a, _, rfl, r.sub.seq e, ⟨fun G' L' M' H' g l r' _ => ⟨_, r'.sub.seq (g.seq e), denL_ints⟩⟩, trivial⟩
  | loc k =>
    obtain ⟨a, rfl, e⟩ := n
    have h : (match M[k]? with | some (.lst xs) => some (xs, fun M' : Ms => M'[k]? = some (.lst xs)) | _ => none) = some (xs, ok) := h
    split at h
    · rename_i ys hm
      cases h
      obtain ⟨_, vs, e1, m1⟩ := r.ats k a _ e hm
      refine ⟨a, vs, rfl, .of e1, ⟨fun G' L' M' H' g l r' hk => ?_⟩, hm⟩
      obtain ⟨_, vs2, e2, m2⟩ := r'.ats k a _ (l.get e) hk
      exact ⟨vs2, .of e2, m2⟩
    · cases h
  | _ => cases h
theorem ylk_list {K : PySem.W.Frag} {G : Hp} {L : List Addr} {a : Addr} {xs : List Dt} {ok : Ms → Prop} (s : Src K a xs ok G L) : YlK K (Itl K a) xs ok G L where
  go := fun i G1 L1 M1 H1 d g l r k e => by
    obtain ⟨vs, hs, n⟩ := s.at_ G1 L1 M1 H1 g l r k
    obtain ⟨v, e1, n1⟩ := n.get e
    exact ⟨⟨vs, v, hs, e1⟩, fun v' H' ⟨eH, y⟩ => by
      subst eH
      have e2 := y vs hs
      rw [e1] at e2; cases e2
      exact ⟨G1, .refl _ _ _, r, n1⟩⟩
  stop := fun i G1 L1 M1 H1 g l r k e => by
    obtain ⟨vs, hs, n⟩ := s.at_ G1 L1 M1 H1 g l r k
    exact ⟨vs, hs, by rw [← n.length]; exact e⟩
def iterK (M : Ms) : Dt → Option (List Dt × (Ms → Prop))
  | .loc k => lstK M (.loc k)
  | d => (iterD M d).map fun xs => (xs, fun _ => True)
def iSeqK (t : DE) : DK := fun ρ M q x => t ρ M (fun d M1 => match iterK M1 d with
  | some (xs, ok) => q xs ok M1
  | none => False) x
theorem jk_seq {X : Cx} {R : St → XK} {tg e : Expr} {te : DE} (h : JE X R e te) : JK X R tg e (iSeqK te) := by
  intro pins s σ H Q I ⟨G, L, ρ, M, q, x, rl, n, ht, hx, hQ⟩
  refine thn (h pins s σ H (Fin X.K G L H _) I ⟨G, L, ρ, M, _, x, rl, n, ht, hx, fun _ _ f => f⟩) fun u s1 ⟨v, H1, I1, rv, d, G1, L1, M1, e1, r1, n1, h1⟩ => ?_
  (try dsimp only at h1)
  cases hi : iterK M1 d with
  | none => rw [hi] at h1; exact h1.elim
  | some p =>
    obtain ⟨xs, ok⟩ := p
    rw [hi] at h1
    have fin : ∀ J, YlK X.K J xs ok G1 L1 → Q J H1 := fun J y => hQ J H1 ⟨xs, ok, G1, L1, M1, e1, r1, y, h1⟩
    have up : ∀ {J}, ok = (fun _ => True) → Yl X.K J xs G1 L1 → YlK X.K J xs ok G1 L1 := fun eo y => by
      subst eo
      exact ⟨fun i G L M H d g l r _ e => y.go i G L M H d g l r e, fun i G L M H g l r _ e => y.stop i G L M H g l r e⟩
    cases d with
    | loc k =>
      obtain ⟨a, vs, rfl, hs, sr, _⟩ := src_of r1 n1 hi
      cases rv
      exact it_list I1 hs (fin _ (ylk_list sr))
    | lst ds =>
      cases hi
      obtain ⟨a, vs, rfl, e, m⟩ := n1
      cases rv
      exact it_list I1 (vs := vs) (.of (r1.sub _ _ e)) (fin _ (up rfl (yl_list (fun G' g => .of (g _ _ e)) m)))
    | scr ns =>
      cases hi
      obtain ⟨a, rfl, e⟩ := n1
      cases rv
      exact it_list I1 (r1.sub.seq e) (fin _ (up rfl (yl_list (fun G' g => g.seq e) denL_ints)))
    | tup ds =>
      cases hi
      obtain ⟨a, vs, rfl, e, m⟩ := n1
      cases rv
      exact it_tup I1 (vs := vs) (.of (r1.sub _ _ e)) (fin _ (up rfl (yl_tup (fun G' g => .of (g _ _ e)) m)))
    | kt ds =>
      cases hi
      obtain ⟨a, vs, rfl, e, m⟩ := n1
      cases rv
      exact it_tup I1 (r1.sub.sqT e) (fin _ (up rfl (yl_tup (fun G' g => g.sqT e) m)))
    | str z =>
      cases hi
      cases n1
      obtain ⟨t, rfl⟩ := rv
      exact it_str I1 (fin _ (up rfl yl_str))
    | _ => cases hi
/-! ### for -/
def forK (g : Dt → En → (En → Prop) → Prop) (tb : DS) (Dn : DEnds) (ok : Ms → Prop) : List Dt → En → Ms → Prop
  | [], ρ, M => ok M ∧ Dn.nx ρ M
  | x :: xs, ρ, M => ok M ∧ g x ρ fun ρ' => tb { Dn with nx := forK g tb Dn ok xs, ct := forK g tb Dn ok xs, bk := Dn.nx } ρ' M
def sForK (ti : DK) (g : Dt → En → (En → Prop) → Prop) (tb : DS) : DS := fun Dn ρ M => ti ρ M (fun xs ok M1 => forK g tb Dn ok xs ρ M1) Dn.x
section
variable {X : Cx} {R : St → XK} {tg iter : Expr} {body : List Stmt} {ti : DK} {gg : TG} {g : Dt → En → (En → Prop) → Prop} {tb : DS} {pos : Pos}
theorem js_forK (hi : JK X R tg iter ti) (hg : PG X tg gg) (gd : GD X.K gg g) (hb : JSs X R body tb) (hp : PassesOwn (model X.prog X.w) X.A X.env X.xe := by first | exact PassesOwn.never | exact PassesOwn.leaving) (hc : X.calm = true := by rfl) (hs : ∀ x, foldedSetIterable iter X.env x = pure x := by intro _; rfl) :
    JS X R (.For tg iter body [] pos) (sForK ti g tb) := .of (ps_for hp hc hi hg hb hs) fun σ H G L ρ M Dn rl n h hx => by
  refine ⟨G, L, ρ, M, _, _, rl, n, h, hx, fun J H1 ⟨xs, ok, G1, L1, M1, e1, r1, y, h1⟩ => ?_⟩
  refine ⟨fun i m σ' H' => m + i = xs.length ∧ FinN X.K G1 L1 H1 (fun ρ' M' => forK g tb Dn ok (xs.drop i) ρ' M') σ' H', ⟨xs.length, rfl, ρ, G1, L1, M1, .refl _ _ _, r1, n.mono e1, by rw [List.drop_zero]; exact h1⟩, ?_⟩
  rintro i m σ' H' ⟨hm, ρ', G', L', M', e', r', n', h'⟩
  by_cases hi : i < xs.length
  · right
    have hd : xs[i]? = some xs[i] := List.getElem?_eq_getElem hi
    rw [List.drop_eq_getElem_cons hi] at h'
    obtain ⟨hok, h'⟩ := h'
    obtain ⟨go, yl⟩ := y.go i G' L' M' H' _ e'.g e'.l r' hok hd
    refine ⟨go, FinN X.K G1 L1 H1 (fun ρ' M' => forK g tb Dn ok (xs.drop (i + 1)) ρ' M'), fun σ2 H2 f => ⟨m - 1, by omega, by omega, f⟩, fun v H2 hy => ?_⟩
    obtain ⟨G2, e2, r2, n2⟩ := yl v H2 hy
    refine gd G2 L' M' H2 _ v ρ' σ' _ _ r2 n2 (n'.mono e2) h' fun ρ3 σ3 n3 h3 => ?_
    refine ⟨G2, L', ρ3, M', _, r2, n3, h3, hx.on (e1.trans (e'.trans e2)), ⟨fun _ _ f => FinN.back (e'.trans e2) f, fun _ _ f => Fin.back (e1.trans (e'.trans e2)) f, fun _ _ f => FinN.back (e1.trans (e'.trans e2)) f, fun _ _ f => FinN.back (e'.trans e2) f⟩⟩
  · left
    rw [List.drop_eq_nil_of_le (by omega)] at h'
    exact ⟨y.stop i G' L' M' H' e'.g e'.l r' h'.1 (by omega), ρ', G', L', M', e1.trans e', r', n', h'.2⟩
end
/-! ### comprehensions -/
def compK (te : DE) (cs : En) (ok : Ms → Prop) : List Dt → List Dt → Ms → (List Dt → Ms → Prop) → Prop
  | [], acc, M, k => ok M ∧ k acc M
  | x :: xs, acc, M, k => ok M ∧ te (some x :: cs) M (fun d M1 => compK te cs ok xs (acc ++ [d]) M1 k) noX
def dCompK (ti : DK) (te : DE) (caps : List Nat) : DE := fun ρ M q x => ti ρ M (fun xs ok M1 => xs.length ≤ sizeLine ∧ compK te (capD caps ρ) ok xs [] M1 (fun ys M2 => q (.lst ys) M2)) x
def dCompKM (ti : DK) (te : DE) (caps : List Nat) : DE := fun ρ M q x => ti ρ M (fun xs ok M1 => xs.length ≤ sizeLine ∧ compK te (capD caps ρ) ok xs [] M1 (fun ys M2 => q (.loc M2.length) (M2 ++ [.lst ys]))) x
theorem compK_rd {K : PySem.W.Frag} {J : It} {te : DE} {caps : List Nat} {ρ : En} {σ : St} {G1 : Hp} {L1 : List Addr} {M1 : Ms} {H1 : Hp} {xs : List Dt} {ok : Ms → Prop} {Dl : Addr} {Q : VK} {k : List Dt → Ms → Prop} (r1 : Rl K G1 L1 M1 H1) (n : EnD K G1 L1 ρ σ) (y : YlK K J xs ok G1 L1) (hD : H1 Dl = none) (hz : xs.length ≤ sizeLine)
    (h : compK te (capD caps ρ) ok xs [] M1 k)
    (fin : ∀ G2 L2 M2 H2 ds vs, Ex G1 L1 H1 G2 L2 H2 → Rl K G2 L2 M2 H2 → G2 Dl = none → Dl ∉ L2 → H2 Dl = some (.lst vs) → DenL K G2 L2 ds vs → k ds M2 → Q (.ref Dl) H2) :
    CompR J (lowE K (fun _ => E0) te) (capV caps σ) Q H1 Dl := by
  refine ⟨fun i m ys H2 => m + i = xs.length ∧ H2 Dl = some (.lst ys) ∧ ∃ acc G2 L2 M2, Ex G1 L1 H1 G2 L2 H2 ∧ Rl K G2 L2 M2 H2 ∧ G2 Dl = none ∧ Dl ∉ L2 ∧ DenL K G2 L2 acc ys ∧ acc.length = i ∧ compK te (capD caps ρ) ok (xs.drop i) acc M2 k, ⟨xs.length, rfl, upd_same, [], G1, L1, M1, ?_⟩, ?_⟩
  · have gn : G1 Dl = none := r1.sub.free hD
    refine ⟨⟨.refl _, .refl _, fun _ h _ => h, fun b u h1 _ => by rw [upd_ne (fun z => by rw [z, hD] at h1; cases h1)]; exact h1, fun _ h => .inl h, fun b h => by rw [upd_ne (fun z => h (by rw [z]; exact hD))]; exact h⟩, ⟨fun b u e => by rw [upd_ne (fun z => by rw [z, gn] at e; cases e)]; exact r1.sub b u e, r1.len, r1.nd, fun i a m h1 h2 => ?_⟩, gn, r1.memN hD, rfl, rfl, by rw [List.drop_zero]; exact h⟩
    obtain ⟨q1, q2⟩ := r1.ats i a m h1 h2
    exact ⟨q1, q2.mono (.refl _) (.refl _) (upd_ne fun z => q2.there (by rw [z]; exact hD))⟩
  · rintro i m ys H2 ⟨hm, hacc, acc, G2, L2, M2, e2, r2, g2, l2, n2, la, h2⟩
    refine ⟨hacc, ?_⟩
    by_cases hi : i < xs.length
    · right
      have hd : xs[i]? = some xs[i] := List.getElem?_eq_getElem hi
      rw [List.drop_eq_getElem_cons hi] at h2
      obtain ⟨hok, h2⟩ := h2
      obtain ⟨go, yl⟩ := y.go i G2 L2 M2 H2 _ e2.g e2.l r2 hok hd
      refine ⟨go, fun v H3 hy => ?_⟩
      obtain ⟨G3, e3, r3, n3⟩ := yl v H3 hy
      refine ⟨G3, L2, _, M2, _, noX, r3, cap_en ((n.mono e2).mono e3) caps n3, h2, xok_no, fun v4 H4 ⟨d4, G4, L4, M4, e4, r4, n4, h4⟩ => ?_⟩
      have h3 : H3 Dl = some (.lst ys) := e3.out _ _ hacc l2
      have g3 : G3 Dl = none := e3.fr _ g2 (by rw [hacc]; simp)
      have h4' : H4 Dl = some (.lst ys) := e4.out _ _ h3 l2
      have g4 : G4 Dl = none := e4.fr _ g3 (by rw [h3]; simp)
      have l4 : Dl ∉ L4 := fun z => (e4.new _ z).elim l2 fun q => by rw [h3] at q; cases q
      have e24 := e3.trans e4
      have lenys : ys.length = i := by rw [← n2.length]; exact la
      have ne1 : ∀ {b : Addr} {u : HO}, H1 b = some u → b ≠ Dl := fun e z => by rw [z, hD] at e; cases e
      refine ⟨h4', by omega, m - 1, by omega, by omega, upd_same, acc ++ [d4], G4, L4, M4, ?_, ?_, g4, l4, (DenL.mono e24.g e24.l _ _ n2).app ⟨_, _, rfl, n4, rfl⟩, by rw [List.length_append, la]; rfl, h4⟩
      · have e14 := e2.trans e24
        exact ⟨e14.g, e14.l, e14.fr, fun b u h1 h2 => by rw [upd_ne (ne1 h1)]; exact e14.out b u h1 h2, e14.new, fun b h => by
          by_cases hb : b = Dl
          · rw [hb, upd_same]; simp
          · rw [upd_ne hb]; exact e14.dom b h⟩
      · refine ⟨fun b u e => by rw [upd_ne (fun z => by rw [z, g4] at e; cases e)]; exact r4.sub b u e, r4.len, r4.nd, fun i a m h1 h2 => ?_⟩
        obtain ⟨q1, q2⟩ := r4.ats i a m h1 h2
        exact ⟨q1, q2.mono (.refl _) (.refl _) (upd_ne fun z => l4 (by rw [← z]; exact List.mem_of_getElem? h1))⟩
    · left
      rw [List.drop_eq_nil_of_le (by omega)] at h2
      exact ⟨y.stop i G2 L2 M2 H2 e2.g e2.l r2 h2.1 (by omega), fin G2 L2 M2 H2 acc ys e2 r2 g2 l2 hacc n2 h2.2⟩
section
variable {X : Cx} {R : St → XK} {elt iter : Expr} {x : Str} {px : Pos} {scope : Scope} {pos : Pos} {ti : DK} {te : DE} {ys : List Str} {caps : List Nat}
theorem j_compK (S : CompScope X scope x ys caps) (hi : JK X R (.Name x px) iter ti) (he : ∀ C s H fp, JE (Cx.comp X (x :: ys) scope C s H fp) (fun _ => E0) elt te) (hc : X.calm = true := by rfl) (hs : ∀ x, foldedSetIterable iter X.env x = pure x := by intro _; rfl) :
    JE X R (.ListComp elt [⟨.Name x px, iter, [], 0⟩] scope pos) (dCompK ti te caps) := .of (pe_comp (wi := lowK X.K R ti) (te := lowE X.K (fun _ => E0) te) S hc hi he hs) fun σ H G L ρ M q x rl n h hx => by
  refine ⟨G, L, ρ, M, _, x, rl, n, h, hx, fun J H1 ⟨xs, ok, G1, L1, M1, e1, r1, y, hz, h1⟩ D hD => ?_⟩
  exact compK_rd r1 (n.mono e1) y hD hz h1 fun G2 L2 M2 H2 ds vs e2 r2 g2 l2 h2 n2 k => Fin.back e1 (own_val e2 r2 hD g2 l2 h2 n2 k)
theorem j_compKM (S : CompScope X scope x ys caps) (hi : JK X R (.Name x px) iter ti) (he : ∀ C s H fp, JE (Cx.comp X (x :: ys) scope C s H fp) (fun _ => E0) elt te) (hc : X.calm = true := by rfl) (hs : ∀ x, foldedSetIterable iter X.env x = pure x := by intro _; rfl) :
    JE X R (.ListComp elt [⟨.Name x px, iter, [], 0⟩] scope pos) (dCompKM ti te caps) := .of (pe_comp (wi := lowK X.K R ti) (te := lowE X.K (fun _ => E0) te) S hc hi he hs) fun σ H G L ρ M q x rl n h hx => by
  refine ⟨G, L, ρ, M, _, x, rl, n, h, hx, fun J H1 ⟨xs, ok, G1, L1, M1, e1, r1, y, hz, h1⟩ D hD => ?_⟩
  exact compK_rd r1 (n.mono e1) y hD hz h1 fun G2 L2 M2 H2 ds vs e2 r2 g2 l2 h2 n2 k => Fin.back e1 (own_loc e2 r2 hD g2 l2 h2 n2 k)
theorem js_setcompK {i : Nat} {y : Str} {py spos : Pos} (hN : X.N.Nodup) (hiy : X.N[i]? = some y) (hy : Loc X.env.scope y) (S : CompScope X scope x ys caps) (hi : JK X R (.Name x px) iter ti) (he : ∀ C s H fp, JE (Cx.comp X (x :: ys) scope C s H fp) (fun _ => E0) elt te) (hc : X.calm = true := by rfl)
    (hsw : swapsWith (.ListComp elt [⟨.Name x px, iter, [], 0⟩] scope pos) (some (.Name y py)) spos.line X.env = pure true := by rfl) (hs : ∀ x, foldedSetIterable iter X.env x = pure x := by intro _; rfl)
    (hf : X.fn y = true ∨ X.env.scope.names.lookup y = some .local := by first | exact .inl rfl | exact .inr rfl | assumption) :
    JS X R (.Assign [.Name y py] (.ListComp elt [⟨.Name x px, iter, [], 0⟩] scope pos) spos) (sSet i (dCompK ti te caps)) := .of (ps_setcomp (wi := lowK X.K R ti) (te := lowE X.K (fun _ => E0) te) hN hiy hy S hc hi he hsw hs hf) fun σ H G L ρ M Dn rl n h hx => by
  refine ⟨G, L, ρ, M, _, _, rl, n, h, hx, fun J H1 ⟨xs, ok, G1, L1, M1, e1, r1, y, hz, h1⟩ D hD => ?_⟩
  refine compK_rd r1 (n.mono e1) y hD hz h1 fun G2 L2 M2 H2 ds vs e2 r2 g2 l2 h2 n2 k => ?_
  obtain ⟨d, G3, L3, M3, e3, r3, n3, h3⟩ := own_val (q := fun d M => Dn.nx (ρ.set i (some d)) M) e2 r2 hD g2 l2 h2 n2 k
  exact ⟨_, G3, L3, M3, e1.trans e3, r3, ((n.mono e1).mono e3).set i n3, h3⟩
end
end L2

set_option Elab.async false
set_option linter.all false
set_option maxRecDepth 100000
set_option maxHeartbeats 4000000
namespace L2
open PySem PySem.Spec PyProof.Rows
/-! ### sum -/
def rSum (K : PySem.W.Frag) : List V → Hp → VK → Prop := fun xs H Q => ∃ (p : Addr) (ns : List Int), xs = [.ref p] ∧ SqL K H p (ns.map V.int) ∧ Q (.int ns.sum) H
def fSum : List Dt → Ms → DQ → Prop
  | [d], M, q => ∃ ns : List Int, seqD M d = some (ns.map .int) ∧ (∃ xs ok, lstK M d = some (xs, ok)) ∧ q (.int ns.sum) M
  | _, _, _ => False
theorem boot_enum' : bootBuiltins "enumerate" = some (.type "enumerate") := by decide +kernel
section
variable {X : Cx} {R : St → XK} {e a b : Expr} {t : DA} {ta tb : DE} {p pos : Pos}
/-! ### in a list or tuple of flat things -/
def fInQ : Dt → Dt → Ms → DQ → Prop := fun d e M q => ∃ u xs us, flatD d = some u ∧ seqD M e = some xs ∧ flatDs xs = some us ∧ q (.bl (inV u us)) M
def fNotInQ : Dt → Dt → Ms → DQ → Prop := fun d e M q => ∃ u xs us, flatD d = some u ∧ seqD M e = some xs ∧ flatDs xs = some us ∧ q (.bl (!inV u us)) M
end
/-! ### enumerate -/
theorem Inv.turnedNew {X : Cx} {pins : List (Addr × Obj)} {σ : St} {H : Hp} {s : Shared} {h' : Heap} {its : List Addr} {T : Addr} {o : HO} {t' : Nat} (I : Inv X pins σ H s) (k : ∀ b u, b ∉ its → s.heap.get? b = some u → h'.get? b = some u) (f : ∀ b ∈ its, FpOk X pins H b) (hT : s.heap.objs.size ≤ T) (new : ObjOk X.prog X.w (upd H T o) h' T o) :
    Inv X pins σ (upd H T o) { s with heap := h', toks := t' } := by
  have hn := I.hok.fresh hT
  have nin : ∀ b u, H b = some u → b ∉ its := fun b u e z => by rw [(f b z).1] at e; cases e
  refine I.call (ch := its) (g' := s.gens) (d' := s.drawn) (t' := t') ⟨fun b u q _ _ hb => k b u hb q, fun b u q _ _ hb => ⟨u.slots, k b u hb q⟩, fun b u q n _ => ?_, fun b u q hb => ⟨u, k b u hb q⟩, fun b xs q => ?_, fun b u xs q => ?_, fun b ps q => ⟨#[], ?_⟩⟩ (fun b u e => ?_) I.bare fun b hb => ?_
  · rw [upd_ne (Nat.ne_of_lt (Nat.lt_of_lt_of_le (Heap.lt_size q) hT))]; exact n
  · rw [upd_ne (ne_of_none q hn)]; exact q
  · rw [upd_ne (ne_of_none q hn)]; exact q
  · rw [upd_ne (ne_of_none q hn), q]; simp
  · by_cases hb : b = T
    · subst hb; rw [upd_same] at e; cases e; exact new
    · rw [upd_ne hb] at e
      refine (I.hok b u e).stay (fun c v hc q => k c v ?_ q) (fun c q => by rw [upd_ne (ne_of_none q hn)]; exact q) fun c xs q => by rw [upd_ne (ne_of_none q hn)]; exact q
      rcases hc with z | z
      · rw [z]; exact nin b u e
      · exact nin c _ z
  · obtain ⟨f0, f1, f2, f3, f4, f5⟩ := f b hb
    exact ⟨f3, f1, f4, f5⟩
def Ite (K : PySem.W.Frag) (l : Addr) : It :=
  ⟨fun i H => ∃ xs x, SqL K H l xs ∧ xs[i]? = some x, fun i H v H' => ∃ p x, H p = none ∧ v = .ref p ∧ H' = upd H p (.tup [.int i, x]) ∧ ∀ xs, SqL K H l xs → xs[i]? = some x, fun i H => ∃ xs, SqL K H l xs ∧ xs.length ≤ i⟩
theorem turn_enum {P : Program} {w : World} {K : PySem.W.Frag} {elts : List Expr} {x1 : Nat} {tp : Pos} (l it e : Addr) (hne : e ≠ it) : Turn P w K (.Tuple elts x1 tp) (Ite K l) [e, it] e (fun i h => (∃ old, IsEnum h e it i old) ∧ h.IsListIter it l i) where
  mem := by simp
  obj := fun i h st b hb => by
    obtain ⟨⟨old, he⟩, hi⟩ := st
    rcases List.mem_cons.mp hb with rfl | hb
    · exact ⟨_, he, fun v z => by
        have z' : Data.fields _ = Data.cell v := z
        cases z'⟩
    · have e : b = it := by simpa using hb
      subst e
      obtain ⟨o, e, c, d⟩ := hi
      exact ⟨o, e, fun v z => by rw [d] at z; cases z⟩
  keep := fun i h h' st k => by
    obtain ⟨⟨old, he⟩, hi⟩ := st
    exact ⟨⟨old, k e (by simp) _ he⟩, hi.at fun o q => k it (by simp) o q⟩
  item := by
    intro X hP hw hK hc i pins s σ H E I hf st hg
    subst hP hw hK
    obtain ⟨⟨old, he⟩, hi⟩ := st
    obtain ⟨xs, x, hq, hx⟩ := hg
    obtain ⟨its, rv, p, hz⟩ := I.list hq
    obtain ⟨u, hu, ru⟩ := rv.get hx
    refine wpAny_pyNext_enum_item he hi p.isList (x := u) (by simpa using hu) hne fun h' ho hi' hT hsz hk => ?_
    refine ⟨_, rfl, wpAny_letOwnedTupleGo_enum (s := { s with heap := h', toks := s.toks + 1 }) ho fun h2 he2 sb => ?_⟩
    have sb : Heap.SameBut e h' h2 := sb
    have elt : e < s.heap.objs.size := Heap.lt_size he
    have ilt : it < s.heap.objs.size := by obtain ⟨o, q, _⟩ := hi; exact Heap.lt_size q
    have neT : s.heap.objs.size ≠ e := Nat.ne_of_gt elt
    have hT2 : h2.get? s.heap.objs.size = some { cls := .type "tuple", data := .seq #[.int i s.toks, u] } := (sb.2 _ neT).trans hT
    have I2 : Inv X pins σ (upd H s.heap.objs.size (.tup [.int i, x])) { s with heap := h2, toks := s.toks + 1 } := by
      refine I.turnedNew (its := [e, it]) (fun b o hb q => ?_) hf (Nat.le_refl _) ?_
      · have h1 : b ≠ e := fun z => hb (by simp [z])
        have h3 : b ≠ it := fun z => hb (by simp [z])
        exact (sb.2 b h1).trans (hk b o h1 h3 q)
      · refine ⟨by simp [sizeLine_eq], [.int i s.toks, u], .cons ⟨_, rfl⟩ (.cons ru .nil), ?_⟩
        exact ⟨_, hT2, rfl, 0, rfl⟩
    have iter : h2.IsListIter it l (i + 1) := hi'.at fun o q => (sb.2 it (Ne.symm hne)).trans q
    refine ⟨.ref s.heap.objs.size, _, I2, rfl, ⟨s.heap.objs.size, x, I.hok.fresh (Nat.le_refl _), rfl, rfl, fun ys hy => by rw [I.list_inj hy hq]; exact hx⟩, ⟨⟨u, by simpa using he2⟩, iter⟩, fun b hb => ?_⟩
    have nb : b ≠ s.heap.objs.size := by
      rcases List.mem_cons.mp hb with rfl | hb
      · exact Nat.ne_of_lt elt
      · have : b = it := by simpa using hb
        subst this; exact Nat.ne_of_lt ilt
    rw [upd_ne nb]; exact (hf b hb).1
  done := by
    intro X hP hw hK hc i pins s σ H E I hf st hg
    subst hP hw hK
    obtain ⟨⟨old, he⟩, hi⟩ := st
    obtain ⟨xs, hq, hx⟩ := hg
    obtain ⟨its, rv, p, hz⟩ := I.list hq
    have hl := rv.length
    obtain ⟨f0, f1, f2, f3, f4, f5⟩ := hf it (by simp)
    refine wpAny_pyNext_enum_end (I.ok.hd hc) he hi p.isList (by simp; omega) fun h' ext => ⟨rfl, I.turned (t' := s.toks) (fun b o hb q => ext b o hb q) f0 f1 f3 f4 f5⟩
  self := fun _ _ _ _ _ st h => by
    obtain ⟨⟨old, he⟩, _⟩ := st
    exact wpAny_pyIter_enum he h
def enumD : Nat → List Dt → List Dt
  | _, [] => []
  | n, x :: xs => .tup [.int n, x] :: enumD (n + 1) xs
theorem enumD_length : ∀ (n : Nat) (xs : List Dt), (enumD n xs).length = xs.length
  | _, [] => rfl
  | n, _ :: xs => by unfold enumD; rw [List.length_cons, List.length_cons, enumD_length]
theorem enumD_get : ∀ {n i : Nat} {xs : List Dt} {d : Dt}, (enumD n xs)[i]? = some d → ∃ x, xs[i]? = some x ∧ d = .tup [.int ((n + i : Nat) : Int), x]
  | n, i, [], d, h => by simp [enumD] at h
  | n, 0, x :: xs, d, h => by
    unfold enumD at h
    simp at h
    exact ⟨x, rfl, by rw [← h]; simp⟩
  | n, i + 1, x :: xs, d, h => by
    unfold enumD at h
    obtain ⟨y, h1, h2⟩ := enumD_get (n := n + 1) (i := i) (xs := xs) (d := d) (by simpa using h)
    exact ⟨y, by simpa using h1, by rw [h2, show n + 1 + i = n + (i + 1) by omega]⟩
theorem ylk_enum {K : PySem.W.Frag} {G : Hp} {L : List Addr} {a : Addr} {xs : List Dt} {ok : Ms → Prop} (s : Src K a xs ok G L) : YlK K (Ite K a) (enumD 0 xs) ok G L where
  go := fun i G1 L1 M1 H1 d g l r k e => by
    obtain ⟨vs, hs, n⟩ := s.at_ G1 L1 M1 H1 g l r k
    obtain ⟨y, ey, rfl⟩ := enumD_get e
    obtain ⟨v, e1, n1⟩ := n.get ey
    refine ⟨⟨vs, v, hs, e1⟩, fun v' H' ⟨p, x, hp, ev, eH, hx⟩ => ?_⟩
    subst ev eH
    have e2 := hx vs hs
    rw [e1] at e2; cases e2
    refine ⟨_, r.exG hp, r.newG hp, den_tup (ds := [.int ((0 + i : Nat) : Int), y]) r hp ⟨_, _, rfl, ?_, _, _, rfl, n1, rfl⟩⟩
    show V.int i = V.int _
    rw [Nat.zero_add]
  stop := fun i G1 L1 M1 H1 g l r k e => by
    obtain ⟨vs, hs, n⟩ := s.at_ G1 L1 M1 H1 g l r k
    exact ⟨vs, hs, by rw [← n.length, ← enumD_length 0]; exact e⟩
def iEnum (t : DA) : DK := fun ρ M q x => t ρ M (fun ds M1 => ∃ d xs ok, ds = [d] ∧ lstK M1 d = some (xs, ok) ∧ q (enumD 0 xs) ok M1) x
theorem jk_enum {X : Cx} {R : St → XK} {elts : List Expr} {x1 : Nat} {tp : Pos} {a : Expr} {t : DA} {p pos : Pos} (hm : X.mg "enumerate" = none) (ha : JA X R [a] t) (hg : Gl X "enumerate" := by rfl) (hs : starEach [a] X.env = [(false, eval a X.env)] := by rfl) : JK X R (.Tuple elts x1 tp) (.Call (.Name "enumerate" p) [a] [] pos) (iEnum t) := by
  intro pins s σ H Q I ⟨G, L, ρ, M, q, x, rl, n, ht, hx, hQ⟩
  refine Call_ (ld_blt I hg hm boot_enum' (PyProof.Rows.callWith_type1 (thn (ha pos pins s σ H (FinA X.K G L H _) I ⟨G, L, ρ, M, _, x, rl, n, ht, hx, fun _ _ f => f⟩) fun us s1 ⟨vs, H1, I1, rv, ds, G1, L1, M1, e1, r1, n1, d, xs, ok, ed, hl, h1⟩ => ?_) hs rfl))
  subst ed
  obtain ⟨v, rfl, n2⟩ := denL_one n1
  obtain ⟨b, ws, rfl, sq, sr, _⟩ := src_of r1 n2 hl
  obtain ⟨u, rfl, ru⟩ := Vals.one rv
  cases ru
  obtain ⟨its, _, pl, _⟩ := I1.list sq
  refine call_enumerate_list pl.isList fun h' he hi hz hk => ?_
  have I2 : Inv X pins σ H1 { s1 with heap := h' } := I1.kept (t' := s1.toks) hk
  refine wpAny_pyIter_enum (s := { s1 with heap := h' }) he ⟨s1.heap.objs.size + 1, [s1.heap.objs.size + 1, s1.heap.objs.size], _, _, H1, rfl, I2, turn_enum b s1.heap.objs.size (s1.heap.objs.size + 1) (Nat.ne_of_gt (Nat.lt_succ_self _)), ⟨⟨_, he⟩, hi⟩, fun c hc => ?_, hQ _ _ ⟨_, ok, G1, L1, M1, e1, r1, ylk_enum sr, h1⟩⟩
  have hc : s1.heap.objs.size ≤ c := by
    rcases List.mem_cons.mp hc with rfl | hc
    · exact Nat.le_succ _
    · have : c = s1.heap.objs.size := by simpa using hc
      rw [this]; exact Nat.le_refl _
  have f := I1.fpOk (H' := H1) hc (I1.hok.fresh hc)
  exact f
end L2

set_option Elab.async false
set_option linter.all false
set_option maxRecDepth 100000
set_option maxHeartbeats 4000000
namespace L2
open PySem PySem.Spec PyProof.Rows
/-! ### isinstance of what may change -/
def kindM (M : Ms) : Dt → Option Value
  | .loc k => match M[k]? with
    | some (.lst _) => some (.type "list")
    | _ => none
  | d => kindD d
def fIsiM (K : PySem.W.Frag) : List Dt → Ms → DQ → Prop := fun ds M q => ∃ d c t t' b, ds = [d, c] ∧ kindM M d = some t ∧ clsD c = some t' ∧ PySem.W.kitOne K t t' = some b ∧ q (.bl b) M
section
variable {K : PySem.W.Frag}
theorem tyOf_kindM {G : Hp} {L : List Addr} {M : Ms} {H : Hp} {d : Dt} {v : V} {t : Value} (r : Rl K G L M H) (n : Den K G L d v) (h : kindM M d = some t) : TyOf K H v t := by
  by_cases hd : ∃ k, d = .loc k
  · obtain ⟨k, rfl⟩ := hd
    obtain ⟨a, rfl, e⟩ := n
    have h : (match M[k]? with | some (.lst _) => some (Value.type "list") | _ => none) = some t := h
    split at h
    · rename_i xs hm
      cases h
      obtain ⟨_, vs, e1, _⟩ := r.ats k a _ e hm
      exact .lst e1
    · cases h
  · refine tyOf_kind r n ?_
    cases d with
    | loc k => exact absurd ⟨k, rfl⟩ hd
    | _ => exact h
theorem isiMD : CaD K (fun xs H Q => ∃ x c t t' b, xs = [x, c] ∧ TyOf K H x t ∧ clsV c = some t' ∧ PySem.W.kitOne K t t' = some b ∧ Q (.bl b) H) (fIsiM K) := by
  intro G0 L0 H0 G L M H vs ds q e r n ⟨d, c, t, t', b, ed, h1, h2, hb, h⟩
  subst ed
  obtain ⟨v, u, rfl, n1, n2⟩ := denL_two n
  exact ⟨v, u, t, t', b, rfl, tyOf_kindM r n1 h1, cls_den n2 h2, hb, fin_v e r h⟩
end
section
variable {X : Cx} {R : St → XK} {e e2 : Expr} {t : DA} {p pos : Pos}
theorem j_isiM (K : PySem.W.Frag) (hm : X.mg "isinstance" = none) (ha : JA X R [e, e2] t) (he : starEach [e, e2] X.env = (false, eval e X.env) :: starEach [e2] X.env := by rfl) (hpl : (backTo pos (starEach [e2] X.env)).any (·.1) = false := by rfl) (hg : Gl X "isinstance" := by rfl) (hK : X.K = K := by rfl) : JE X R (.Call (.Name "isinstance" p) [e, e2] [] pos) (dFn (fIsiM K) t) := by
  subst hK
  exact j_callB call_isinst isiMD hm boot_isinstance' ha hg (by decide) (by decide) he hpl
/-! ### a tuple of the module -/
end
/-! ### reading loops and comprehensions -/
theorem compK_map {te : DE} {cs : En} {ok : Ms → Prop} {f : Dt → Dt} : ∀ {xs acc : List Dt} {M : Ms} {k : List Dt → Ms → Prop}, ok M → (∀ x ∈ xs, ∀ q : DQ, q (f x) M → te (some x :: cs) M q noX) → k (acc ++ xs.map f) M → compK te cs ok xs acc M k
  | [], acc, M, k, ho, _, h => ⟨ho, by simpa using h⟩
  | x :: xs, acc, M, k, ho, hf, h => ⟨ho, hf x List.mem_cons_self _ (compK_map ho (fun y hy => hf y (List.mem_cons_of_mem _ hy)) (by simpa using h))⟩
theorem forK_map {g : Dt → En → (En → Prop) → Prop} {tb : DS} {Dn : DEnds} {ok : Ms → Prop} (J : List Dt → En → Ms → Prop) (hok : ∀ xs ρ M, J xs ρ M → ok M)
    (step : ∀ x xs ρ M, J (x :: xs) ρ M → (∀ ρ M, J xs ρ M → forK g tb Dn ok xs ρ M) → g x ρ fun ρ' => tb { Dn with nx := forK g tb Dn ok xs, ct := forK g tb Dn ok xs, bk := Dn.nx } ρ' M)
    (fin : ∀ ρ M, J [] ρ M → Dn.nx ρ M) : ∀ (xs : List Dt) (ρ : En) (M : Ms), J xs ρ M → forK g tb Dn ok xs ρ M
  | [], ρ, M, h => ⟨hok _ _ _ h, fin _ _ h⟩
  | x :: xs, ρ, M, h => ⟨hok _ _ _ h, step x xs ρ M h fun ρ' M' h' => forK_map J hok step fin xs ρ' M' h'⟩
end L2

set_option Elab.async false
set_option linter.all false
set_option maxRecDepth 100000
set_option maxHeartbeats 4000000
namespace L2
open PySem PySem.Spec PyProof.Rows
/-! ### taken as they stand, the old store unchanged -/
section
variable {K : PySem.W.Frag} {G : Hp} {L : List Addr}
mutual
theorem den_un : ∀ (d : Dt) (v : V), Den K G L d v → d.under L.length
  | .non, _, _ => trivial
  | .bl _, _, _ => trivial
  | .int _, _, _ => trivial
  | .str _, _, _ => trivial
  | .tup ds, _, ⟨a, vs, e, h1, h2⟩ => denL_un ds vs h2
  | .lst ds, _, ⟨a, vs, e, h1, h2⟩ => denL_un ds vs h2
  | .obj C ns ds, _, ⟨a, dx, vs, e, h1, hl, h2⟩ => denL_un ds vs h2
  | .loc k, _, ⟨a, e, h1⟩ => (List.getElem?_eq_some_iff.mp h1).1
  | .ref _, _, _ => trivial
  | .ty _, _, _ => trivial
  | .scr _, _, _ => trivial
  | .kt ds, _, ⟨a, vs, e, h1, h2⟩ => denL_un ds vs h2
theorem denL_un : ∀ (ds : List Dt) (vs : List V), DenL K G L ds vs → Dt.underL L.length ds
  | [], _, _ => trivial
  | d :: ds, _, ⟨v, r, e, h1, h2⟩ => ⟨den_un d v h1, denL_un ds r h2⟩
end
theorem Rl.un {M : Ms} {H : Hp} (r : Rl K G L M H) : ∀ m ∈ M, MO.under M.length m := fun m hm => by
  obtain ⟨k, hk, e⟩ := List.getElem_of_mem hm
  have em : M[k]? = some m := by rw [List.getElem?_eq_getElem hk, e]
  have el : L[k]? = some (L[k]'(by rw [r.len]; exact hk)) := List.getElem?_eq_getElem _
  obtain ⟨_, q⟩ := r.ats k _ m el em
  rw [← r.len]
  cases m with
  | lst ds => obtain ⟨vs, _, h⟩ := q; exact denL_un _ _ h
  | ins C ns ds => obtain ⟨dx, vs, _, _, h⟩ := q; exact denL_un _ _ h
  | dct ks ds => obtain ⟨vs, _, _, h⟩ := q; exact denL_un _ _ h
end
def frzU (M0 : Ms) (q : DQ) : DQ := fun d M => ∃ E d', M = M0 ++ E ∧ Frz M0.length E d d' ∧ q d' M0
theorem Fin.frzU {K : PySem.W.Frag} {G0 : Hp} {L0 : List Addr} {M0 : Ms} {H0 : Hp} {q : DQ} {v : V} {H : Hp} (r0 : Rl K G0 L0 M0 H0) (f : Fin K G0 L0 H0 (frzU M0 q) v H) : Fin K G0 L0 H0 q v H := by
  obtain ⟨d, G, L, M, ex, r, dn, E, d', e, fz, hq⟩ := f
  exact Fin.frz r0 ⟨d, G, L, M, ex, r, dn, M0, E, d', e, rfl, r0.un, fz, hq⟩
def dFz (t : DE) : DE := fun ρ M q x => t ρ M (frzU M q) x
def fzT (T : DF) : DF := fun ds M q x => T ds M (frzU M q) x
theorem je_fz {X : Cx} {R : St → XK} {e : Expr} {t : DE} (h : JE X R e t) : JE X R e (dFz t) := .of h fun σ H G L ρ M q x rl n ht hx => ⟨G, L, ρ, M, _, x, rl, n, ht, hx, fun v H1 f => Fin.frzU rl f⟩
theorem fz_new {M0 E : Ms} {q : DQ} {d d' : Dt} (f : Frz M0.length E d d') (h : q d' M0) : frzU M0 q d (M0 ++ E) := ⟨E, d', rfl, f, h⟩
end L2

set_option Elab.async false
set_option linter.all false
set_option maxRecDepth 100000
set_option maxHeartbeats 4000000
namespace L2
open PySem PySem.Spec PyProof.Rows
/-! ### displays of constants -/
def constDs (f : Expr → Option Dt) : List Expr → Option (List Dt)
  | [] => some []
  | e :: es => match f e, constDs f es with
    | some d, some ds => some (d :: ds)
    | _, _ => none
def constD : Nat → Expr → Option Dt
  | 0, e => match e with
    | .Constant (.int i) _ _ => some (.int i)
    | .Constant (.str x) _ _ => some (.str x)
    | _ => none
  | n + 1, e => match e with
    | .Constant (.int i) _ _ => some (.int i)
    | .Constant (.str x) _ _ => some (.str x)
    | .Tuple es _ _ => if es.length ≤ 100 then (constDs (constD n) es).map .tup else none
    | .List es _ => if es.length ≤ 100 then (constDs (constD n) es).map .lst else none
    | _ => none
theorem star_const {n : Nat} {e : Expr} {d : Dt} {es : List Expr} {env : Env} (h : constD n e = some d) : starEach (e :: es) env = (false, eval e env) :: starEach es env := by
  cases n <;> (unfold constD at h; split at h <;> first | rfl | cases h)
theorem constDs_len {f : Expr → Option Dt} : ∀ {es : List Expr} {ds : List Dt}, constDs f es = some ds → ds.length = es.length
  | [], ds, h => by cases h; rfl
  | e :: es, ds, h => by
    unfold constDs at h
    split at h
    · rename_i d ds' h1 h2
      cases h
      rw [List.length_cons, List.length_cons, constDs_len h2]
    · cases h
section
variable {X : Cx} {R : St → XK}
theorem ja_const {n : Nat} (ih : ∀ (e : Expr) (d : Dt), constD n e = some d → JE X R e (dC d)) : ∀ (es : List Expr) (ds : List Dt), constDs (constD n) es = some ds → JA X R es (fun _ M q _ => q ds M)
  | [], ds, h => by cases h; exact ja_nil
  | e :: es, ds, h => by
    unfold constDs at h
    split at h
    · rename_i d ds' h1 h2
      cases h
      exact ja_cons (ih e d h1) (ja_const ih es ds' h2) (hs := star_const h1)
    · cases h
theorem size100 {n : Nat} (h : n ≤ 100) : n ≤ sizeLine := Nat.le_trans h (by decide)
theorem JE.imp {e : Expr} {t t' : DE} (h : JE X R e t) (hi : ∀ ρ M q x, t' ρ M q x → t ρ M q x) : JE X R e t' := .of h fun σ H G L ρ M q x rl n ht hx => ⟨G, L, ρ, M, q, x, rl, n, hi _ _ _ _ ht, hx, fun _ _ f => f⟩
theorem j_const : ∀ (n : Nat) {e : Expr} {d : Dt}, constD n e = some d → JE X R e (dC d)
  | 0, e, d, h => by
    unfold constD at h
    split at h
    · cases h; exact jint
    · cases h; exact jstr
    · cases h
  | n + 1, e, d, h => by
    unfold constD at h
    split at h
    · cases h; exact jint
    · cases h; exact jstr
    · split at h
      · rename_i es _ _ hl
        cases hc : constDs (constD n) es with
        | none => rw [hc] at h; cases h
        | some ds =>
          rw [hc] at h
          cases h
          exact (j_tup (ja_const (fun e d => j_const n) es ds hc)).imp fun ρ M q x hq => ⟨size100 (by rw [constDs_len hc]; exact hl), hq⟩
      · cases h
    · split at h
      · rename_i es _ hl
        cases hc : constDs (constD n) es with
        | none => rw [hc] at h; cases h
        | some ds =>
          rw [hc] at h
          cases h
          exact (j_lst (ja_const (fun e d => j_const n) es ds hc)).imp fun ρ M q x hq => ⟨size100 (by rw [constDs_len hc]; exact hl), hq⟩
      · cases h
    · cases h
end
end L2

set_option Elab.async false
set_option linter.all false
set_option maxRecDepth 100000
set_option maxHeartbeats 4000000
namespace L2
open PySem PySem.Spec PyProof.Rows
/-! ### zip of two lists -/
theorem boot_zip' : bootBuiltins "zip" = some (.type "zip") := by decide +kernel
theorem Inv.turnedL {X : Cx} {pins : List (Addr × Obj)} {σ : St} {H : Hp} {s : Shared} {h' : Heap} {its : List Addr} {t' : Nat} (I : Inv X pins σ H s) (k : ∀ b u, b ∉ its → s.heap.get? b = some u → h'.get? b = some u) (f : ∀ b ∈ its, FpOk X pins H b) :
    Inv X pins σ H { s with heap := h', toks := t' } := by
  have nin : ∀ b u, H b = some u → b ∉ its := fun b u e z => by rw [(f b z).1] at e; cases e
  refine I.call (ch := its) (g' := s.gens) (d' := s.drawn) (t' := t') ⟨fun b u q _ _ hb => k b u hb q, fun b u q _ _ hb => ⟨u.slots, k b u hb q⟩, fun b u q n _ => n, fun b u q hb => ⟨u, k b u hb q⟩, fun b xs q => q, fun b u xs q => q, fun b ps q => ⟨#[], by rw [q]; simp⟩⟩ (fun b u e => ?_) I.bare fun b hb => ?_
  · refine (I.hok b u e).stay (fun c v hc q => k c v ?_ q) (fun c q => q) fun c xs q => q
    rcases hc with z | z
    · rw [z]; exact nin b u e
    · exact nin c _ z
  · obtain ⟨f0, f1, f2, f3, f4, f5⟩ := f b hb
    exact ⟨f3, f1, f4, f5⟩
def Itz (K : PySem.W.Frag) (l1 l2 : Addr) : It :=
  ⟨fun i H => ∃ xs ys x y, SqL K H l1 xs ∧ SqL K H l2 ys ∧ xs[i]? = some x ∧ ys[i]? = some y,
   fun i H v H' => ∃ p x y, H p = none ∧ v = .ref p ∧ H' = upd H p (.tup [x, y]) ∧ (∀ xs, SqL K H l1 xs → xs[i]? = some x) ∧ ∀ ys, SqL K H l2 ys → ys[i]? = some y,
   fun i H => ∃ xs ys, SqL K H l1 xs ∧ SqL K H l2 ys ∧ (xs.length ≤ i ∨ ys.length ≤ i)⟩
theorem turn_zip {P : Program} {w : World} {K : PySem.W.Frag} {elts : List Expr} {x1 : Nat} {tp : Pos} {l1 l2 i1 i2 TI TO z : Addr} (D : ZipApart z TI TO i1 i2 l1 l2) : Turn P w K (.Tuple elts x1 tp) (Itz K l1 l2) [z, TI, TO, i1, i2] z (fun i h => (∃ a b, IsZip h z TI TO .none ∧ IsPair h TI (.ref i1) (.ref i2) ∧ IsPair h TO a b) ∧ h.IsListIter i1 l1 i ∧ h.IsListIter i2 l2 i) where
  mem := by simp
  obj := fun i h st b hb => by
    obtain ⟨⟨a, c, hz, hTI, hTO⟩, h1, h2⟩ := st
    simp only [List.mem_cons, List.not_mem_nil, or_false] at hb
    rcases hb with rfl | rfl | rfl | rfl | rfl
    · exact ⟨_, hz, fun v z => by
        have z' : Data.fields _ = Data.cell v := z
        cases z'⟩
    · exact ⟨_, hTI, fun v z => by
        have z' : Data.seq _ = Data.cell v := z
        cases z'⟩
    · exact ⟨_, hTO, fun v z => by
        have z' : Data.seq _ = Data.cell v := z
        cases z'⟩
    · obtain ⟨o, e, c, d⟩ := h1
      exact ⟨o, e, fun v z => by rw [d] at z; cases z⟩
    · obtain ⟨o, e, c, d⟩ := h2
      exact ⟨o, e, fun v z => by rw [d] at z; cases z⟩
  keep := fun i h h' st k => by
    obtain ⟨⟨a, c, hz, hTI, hTO⟩, h1, h2⟩ := st
    exact ⟨⟨a, c, k z (by simp) _ hz, k TI (by simp) _ hTI, k TO (by simp) _ hTO⟩, h1.at fun o q => k i1 (by simp) o q, h2.at fun o q => k i2 (by simp) o q⟩
  item := by
    intro X hP hw hK hc i pins s σ H E I hf st hg
    subst hP hw hK
    obtain ⟨⟨a, c, hz, hTI, hTO⟩, h1, h2⟩ := st
    obtain ⟨xs, ys, x, y, hq1, hq2, hx, hy⟩ := hg
    obtain ⟨its1, rv1, p1, _⟩ := I.list hq1
    obtain ⟨u1, hu1, ru1⟩ := rv1.get hx
    obtain ⟨its2, rv2, p2, _⟩ := I.list hq2
    obtain ⟨u2, hu2, ru2⟩ := rv2.get hy
    refine wpAny_pyNext_zip_item D hz hTI hTO h1 h2 p1.isList p2.isList (x := u1) (y := u2) (by simpa using hu1) (by simpa using hu2) fun h' hz' hTO' h1' h2' hT hsz hk => ?_
    refine ⟨_, rfl, wpAny_letOwnedTupleGo_zip (s := { s with heap := h' }) hz' fun h3 hz3 sb => ?_⟩
    have sb : Heap.SameBut z h' h3 := sb
    have zlt : z < s.heap.objs.size := Heap.lt_size hz
    have neT : s.heap.objs.size ≠ z := Nat.ne_of_gt zlt
    have hT3 : h3.get? s.heap.objs.size = some { cls := .type "tuple", data := .seq #[u1, u2] } := (sb.2 _ neT).trans hT
    have lt : ∀ b ∈ [z, TI, TO, i1, i2], b < s.heap.objs.size := fun b hb => by
      simp only [List.mem_cons, List.not_mem_nil, or_false] at hb
      rcases hb with rfl | rfl | rfl | rfl | rfl
      · exact zlt
      · exact Heap.lt_size hTI
      · exact Heap.lt_size hTO
      · obtain ⟨o, q, _⟩ := h1; exact Heap.lt_size q
      · obtain ⟨o, q, _⟩ := h2; exact Heap.lt_size q
    have I2 : Inv X pins σ (upd H s.heap.objs.size (.tup [x, y])) { s with heap := h3, toks := s.toks } := by
      refine I.turnedNew (its := [z, TI, TO, i1, i2]) (fun b o hb q => ?_) hf (Nat.le_refl _) ?_
      · simp only [List.mem_cons, List.not_mem_nil, or_false, not_or] at hb
        obtain ⟨b1, b2, b3, b4, b5⟩ := hb
        exact (sb.2 b b1).trans (hk b o b1 b3 b4 b5 q)
      · refine ⟨by simp [sizeLine_eq], [u1, u2], .cons ru1 (.cons ru2 .nil), ?_⟩
        exact ⟨_, hT3, rfl, 0, rfl⟩
    refine ⟨.ref s.heap.objs.size, _, I2, rfl, ⟨s.heap.objs.size, x, y, I.hok.fresh (Nat.le_refl _), rfl, rfl, fun zs hzs => by rw [I.list_inj hzs hq1]; exact hx, fun zs hzs => by rw [I.list_inj hzs hq2]; exact hy⟩, ⟨⟨u1, u2, hz3, (sb.2 _ D.TIz).trans (hk _ _ D.TIz D.TITO D.TIi1 D.TIi2 hTI), (sb.2 _ D.TOz).trans hTO'⟩, h1'.at fun o q => (sb.2 i1 D.i1z).trans q, h2'.at fun o q => (sb.2 i2 D.i2z).trans q⟩, fun b hb => ?_⟩
    rw [upd_ne (Nat.ne_of_lt (lt b hb))]; exact (hf b hb).1
  done := by
    intro X hP hw hK hc i pins s σ H E I hf st hg
    subst hP hw hK
    obtain ⟨⟨a, c, hz, hTI, hTO⟩, h1, h2⟩ := st
    obtain ⟨xs, ys, hq1, hq2, hx⟩ := hg
    obtain ⟨its1, rv1, p1, _⟩ := I.list hq1
    obtain ⟨its2, rv2, p2, _⟩ := I.list hq2
    have hl1 := rv1.length
    have hl2 := rv2.length
    refine wpAny_pyNext_zip_end (I.ok.hd hc) D hz hTI hTO h1 h2 p1.isList p2.isList (by rcases hx with hx | hx; · left; simp; omega
                                                                                        · right; simp; omega) fun h' ext => ⟨rfl, I.turnedL (t' := s.toks) (its := [z, TI, TO, i1, i2]) (fun b o hb q => ?_) hf⟩
    simp only [List.mem_cons, List.not_mem_nil, or_false, not_or] at hb
    obtain ⟨b1, b2, b3, b4, b5⟩ := hb
    exact ext b o b1 b3 b4 b5 q
  self := fun _ _ _ _ _ st h => by
    obtain ⟨⟨a, c, hz, _, _⟩, _⟩ := st
    exact wpAny_pyIter_zip hz h
def zipD (xs ys : List Dt) : List Dt := (xs.zip ys).map fun p => .tup [p.1, p.2]
theorem zipD_get {xs ys : List Dt} {i : Nat} {d : Dt} (h : (zipD xs ys)[i]? = some d) : ∃ x y, xs[i]? = some x ∧ ys[i]? = some y ∧ d = .tup [x, y] := by
  unfold zipD at h
  rw [List.getElem?_map] at h
  cases e : (xs.zip ys)[i]? with
  | none => rw [e] at h; cases h
  | some p =>
    rw [e] at h
    cases h
    obtain ⟨h1, h2⟩ := List.getElem?_zip_eq_some.mp e
    exact ⟨p.1, p.2, h1, h2, rfl⟩
theorem zipD_length (xs ys : List Dt) : (zipD xs ys).length = min xs.length ys.length := by
  unfold zipD; rw [List.length_map, List.length_zip]
theorem ylk_zip {K : PySem.W.Frag} {G : Hp} {L : List Addr} {a b : Addr} {xs ys : List Dt} {ok ok' : Ms → Prop} (s : Src K a xs ok G L) (s' : Src K b ys ok' G L) : YlK K (Itz K a b) (zipD xs ys) (fun M => ok M ∧ ok' M) G L where
  go := fun i G1 L1 M1 H1 d g l r k e => by
    obtain ⟨vs, hs, n⟩ := s.at_ G1 L1 M1 H1 g l r k.1
    obtain ⟨vs', hs', n'⟩ := s'.at_ G1 L1 M1 H1 g l r k.2
    obtain ⟨x, y, ex, ey, rfl⟩ := zipD_get e
    obtain ⟨v, e1, n1⟩ := n.get ex
    obtain ⟨v', e1', n1'⟩ := n'.get ey
    refine ⟨⟨vs, vs', v, v', hs, hs', e1, e1'⟩, fun w H' ⟨p, x2, y2, hp, ev, eH, hx, hy⟩ => ?_⟩
    subst ev eH
    have e2 := hx vs hs
    rw [e1] at e2; cases e2
    have e3 := hy vs' hs'
    rw [e1'] at e3; cases e3
    exact ⟨_, r.exG hp, r.newG hp, den_tup (ds := [x, y]) r hp ⟨_, _, rfl, n1, _, _, rfl, n1', rfl⟩⟩
  stop := fun i G1 L1 M1 H1 g l r k e => by
    obtain ⟨vs, hs, n⟩ := s.at_ G1 L1 M1 H1 g l r k.1
    obtain ⟨vs', hs', n'⟩ := s'.at_ G1 L1 M1 H1 g l r k.2
    refine ⟨vs, vs', hs, hs', ?_⟩
    rw [← n.length, ← n'.length]
    rw [zipD_length] at e
    omega
def iZip (t : DA) : DK := fun ρ M q x => t ρ M (fun ds M1 => ∃ d d' xs ys ok ok', ds = [d, d'] ∧ lstK M1 d = some (xs, ok) ∧ lstK M1 d' = some (ys, ok') ∧ q (zipD xs ys) (fun M => ok M ∧ ok' M) M1) x
theorem jk_zip {X : Cx} {R : St → XK} {elts : List Expr} {x1 : Nat} {tp : Pos} {a a' : Expr} {t : DA} {p pos : Pos} (hm : X.mg "zip" = none) (ha : JA X R [a, a'] t) (hg : Gl X "zip" := by rfl) (hs : starEach [a, a'] X.env = (false, eval a X.env) :: starEach [a'] X.env := by rfl) (hpl : (backTo pos (starEach [a'] X.env)).any (·.1) = false := by rfl) : JK X R (.Tuple elts x1 tp) (.Call (.Name "zip" p) [a, a'] [] pos) (iZip t) := by
  intro pins s σ H Q I ⟨G, L, ρ, M, q, x, rl, n, ht, hx, hQ⟩
  refine Call_ (ld_blt I hg hm boot_zip' (PyProof.Rows.callWith_type1 (thn (ha pos pins s σ H (FinA X.K G L H _) I ⟨G, L, ρ, M, _, x, rl, n, ht, hx, fun _ _ f => f⟩) fun us s1 ⟨vs, H1, I1, rv, ds, G1, L1, M1, e1, r1, n1, d, d', xs, ys, ok, ok', ed, hl, hl', h1⟩ => ?_) hs hpl))
  subst ed
  obtain ⟨v, v', rfl, n2, n2'⟩ := denL_two n1
  obtain ⟨b, ws, rfl, sq, sr, _⟩ := src_of r1 n2 hl
  obtain ⟨b', ws', rfl, sq', sr', _⟩ := src_of r1 n2' hl'
  cases rv with
  | cons ru rv =>
    cases rv with
    | cons ru' rv =>
      cases rv
      cases ru
      cases ru'
      obtain ⟨its, _, pl, _⟩ := I1.list sq
      obtain ⟨its', _, pl', _⟩ := I1.list sq'
      have lt1 : b < s1.heap.objs.size := by obtain ⟨o, q, _⟩ := pl.isList; exact Heap.lt_size q
      have lt2 : b' < s1.heap.objs.size := by obtain ⟨o, q, _⟩ := pl'.isList; exact Heap.lt_size q
      refine call_zip_2 pl.isList pl'.isList fun h' hz hTI hTO hi hi' hsz hk => ?_
      have I2 : Inv X pins σ H1 { s1 with heap := h' } := I1.kept (t' := s1.toks) hk
      have D : ZipApart (s1.heap.objs.size + 4) (s1.heap.objs.size + 2) (s1.heap.objs.size + 3) s1.heap.objs.size (s1.heap.objs.size + 1) b b' := by
        have ne : ∀ i j : Nat, i ≠ j → s1.heap.objs.size + i ≠ s1.heap.objs.size + j := fun i j h z => h (Nat.add_left_cancel z)
        have n1 : ∀ i : Nat, b ≠ s1.heap.objs.size + i := fun i => Nat.ne_of_lt (Nat.lt_of_lt_of_le lt1 (Nat.le_add_right _ _))
        have n2 : ∀ i : Nat, b' ≠ s1.heap.objs.size + i := fun i => Nat.ne_of_lt (Nat.lt_of_lt_of_le lt2 (Nat.le_add_right _ _))
        exact ⟨ne 2 4 (by decide), ne 3 4 (by decide), ne 0 4 (by decide), ne 1 4 (by decide), ne 2 3 (by decide), ne 2 0 (by decide), ne 2 1 (by decide), ne 3 0 (by decide), ne 3 1 (by decide), ne 0 1 (by decide), n1 4, n1 3, n1 0, n1 1, n2 4, n2 3, n2 0, n2 1⟩
      refine wpAny_pyIter_zip (s := { s1 with heap := h' }) hz ⟨s1.heap.objs.size + 4, [s1.heap.objs.size + 4, s1.heap.objs.size + 2, s1.heap.objs.size + 3, s1.heap.objs.size, s1.heap.objs.size + 1], _, _, H1, rfl, I2, turn_zip D, ⟨⟨_, _, hz, hTI, hTO⟩, hi, hi'⟩, fun c hc => ?_, hQ _ _ ⟨_, _, G1, L1, M1, e1, r1, ylk_zip sr sr', h1⟩⟩
      have hc : s1.heap.objs.size ≤ c := by
        simp only [List.mem_cons, List.not_mem_nil, or_false] at hc
        rcases hc with rfl | rfl | rfl | rfl | rfl
        · exact Nat.le_add_right _ _
        · exact Nat.le_add_right _ _
        · exact Nat.le_add_right _ _
        · exact Nat.le_refl _
        · exact Nat.le_add_right _ _
      have f := I1.fpOk (H' := H1) hc (I1.hok.fresh hc)
      exact f
end L2

set_option Elab.async false
set_option linter.all false
set_option maxRecDepth 100000
set_option maxHeartbeats 4000000
namespace L2
open PySem PySem.Spec PyProof.Rows
/-! ### comprehensions with a test, of one name or two -/
structure CompScopeT (X : Cx) (scope : Scope) (xs ys : List Str) (caps : List Nat) : Prop where
  kind : scope.kind = .function
  nocell : ∀ p ∈ scope.names, p.2 ≠ .cell
  names : ∀ p ∈ scope.names, p.2 = .local → scope.names.lookup p.1 = some .local
  own : ∀ x ∈ xs, scope.names.lookup x = some .local
  free : ∀ p ∈ scope.names, p.2 = .free → X.env.scope.names.lookup p.1 = some .cell
  nd : (xs ++ ys).Nodup
  cap : ∀ q ∈ ys.zip caps, X.N[q.2]? = some q.1 ∧ X.env.scope.names.lookup q.1 = some .cell ∧ scope.names.lookup q.1 = some .free
  len : ys.length = caps.length
theorem CompScopeT.has {X : Cx} {scope : Scope} {xs ys : List Str} {caps : List Nat} (S : CompScopeT X scope xs ys caps) (ok : X.Ok) : ∀ p ∈ scope.names, p.2 = .free → (X.env.cells.lookup p.1).isSome = true := fun p hp hf => by
  obtain ⟨c, e⟩ := ok.has p.1 (.inl (S.free p hp hf))
  rw [e]; rfl
def Keeps (n : Nat) (gg : TG) : Prop := ∀ v (os cs : St) H (Q : St → Hp → Prop), os.length = n → gg v (os ++ cs) H Q → gg v (os ++ cs) H fun σ' H' => (∃ os' : St, os'.length = n ∧ σ' = os' ++ cs) ∧ Q σ' H'
theorem keeps_two {K : PySem.W.Frag} {n i j : Nat} (h : i < n) (h' : j < n) : Keeps n (gTup K 2 (gCons (gName i) (gCons (gName j) gNil))) :=
  fun v os cs H Q hl ⟨a, xs, e, s, l, v1, r, e1, v2, r2, e2, e3, q⟩ => ⟨a, xs, e, s, l, v1, r, e1, v2, r2, e2, e3, ⟨(os.set i (some v1)).set j (some v2), by simp [hl], by
    rw [List.set_append_left _ _ (by omega), List.set_append_left _ _ (by rw [List.length_set]; omega)]⟩, q⟩
def CompRT (J : It) (n : Nat) (gg : TG) (tc : TT) (te : TE) (cs : St) (Q : VK) (H1 : Hp) (D : Addr) : Prop :=
  ∃ W : Nat → Nat → List V → Hp → Prop, (∃ m, W 0 m [] (upd H1 D (.lst []))) ∧ ∀ i m ys H2, W i m ys H2 → H2 D = some (.lst ys) ∧
    ((J.stop i H2 ∧ Q (.ref D) H2) ∨ (J.go i H2 ∧ ∀ x H3, J.yld i H2 x H3 → ∀ os : St, os.length = n → gg x (os ++ cs) H3 fun σ' H3' => tc σ' H3' fun b H4 => match b with
      | true => te σ' H4 fun y H5 => H5 D = some (.lst ys) ∧ ys.length < sizeLine ∧ ∃ m', m' < m ∧ W (i + 1) m' (ys ++ [y]) (upd H5 D (.lst (ys ++ [y])))
      | false => ∃ m', m' < m ∧ W (i + 1) m' ys H4))
def tCompT (wi : TI) (n : Nat) (gg : TG) (tc : TT) (te : TE) (caps : List Nat) : TE := fun σ H Q => wi σ H fun J H1 => ∀ D, H1 D = none → CompRT J n gg tc te (capV caps σ) Q H1 D
section
variable {X : Cx} {elt iter tg c : Expr} {xs : List Str} {scope : Scope} {pos : Pos} {wi : TI} {gg : TG} {tc : TT} {te : TE} {ys : List Str} {caps : List Nat}
theorem pgc_name {i : Nat} {x : Str} {px : Pos} (S : CompScopeT X scope xs ys caps) (h : xs[i]? = some x) (C : Addr) (s : Shared) (H : Hp) (fp : List Addr) : PG (Cx.comp X (xs ++ ys) scope C s H fp) (.Name x px) (gName i) := by
  have hm : x ∈ xs := List.mem_of_getElem? h
  have hi : (xs ++ ys)[i]? = some x := by rw [List.getElem?_append_left (List.getElem?_eq_some_iff.mp h).1]; exact h
  exact pg_name S.nd hi (.inl (lookup_relabel_local (S.own x hm))) (.inr (lookup_relabel_local (S.own x hm)))
theorem pgc_two {x y : Str} {px py : Pos} {k : Nat} (hc : X.calm = true) (S : CompScopeT X scope [x, y] ys caps) (C : Addr) (s : Shared) (H : Hp) (fp : List Addr) : PG (Cx.comp X ([x, y] ++ ys) scope C s H fp) (.Tuple [.Name x px, .Name y py] k pos) (gTup X.K 2 (gCons (gName 0) (gCons (gName 1) gNil))) :=
  pg_tup (X := Cx.comp X ([x, y] ++ ys) scope C s H fp) hc (pgs_cons (pgc_name S (i := 0) rfl C s H fp) (pgs_cons (pgc_name S (i := 1) rfl C s H fp) pgs_nil))
end
/-! data -/
def compT (g : Dt → En → (En → Prop) → Prop) (tc : DT) (te : DE) (ρ0 : En) (ok : Ms → Prop) : List Dt → List Dt → Ms → (List Dt → Ms → Prop) → Prop
  | [], acc, M, k => ok M ∧ k acc M
  | x :: xs, acc, M, k => ok M ∧ g x ρ0 fun ρ' => tc ρ' M (fun b M1 => match b with
    | true => te ρ' M1 (fun d M2 => compT g tc te ρ0 ok xs (acc ++ [d]) M2 k) noX
    | false => compT g tc te ρ0 ok xs acc M1 k) noX
def dCompT (n : Nat) (ti : DK) (g : Dt → En → (En → Prop) → Prop) (tc : DT) (te : DE) (caps : List Nat) : DE := fun ρ M q x => ti ρ M (fun xs ok M1 => xs.length ≤ sizeLine ∧ compT g tc te (List.replicate n none ++ capD caps ρ) ok xs [] M1 (fun ys M2 => q (.lst ys) M2)) x
def dCompTM (n : Nat) (ti : DK) (g : Dt → En → (En → Prop) → Prop) (tc : DT) (te : DE) (caps : List Nat) : DE := fun ρ M q x => ti ρ M (fun xs ok M1 => xs.length ≤ sizeLine ∧ compT g tc te (List.replicate n none ++ capD caps ρ) ok xs [] M1 (fun ys M2 => q (.loc M2.length) (M2 ++ [.lst ys]))) x
theorem cap_enN {K : PySem.W.Frag} {G : Hp} {L : List Addr} {ρ : En} {σ os : St} {n : Nat} (h : EnD K G L ρ σ) (caps : List Nat) (hl : os.length = n) : EnD K G L (List.replicate n none ++ capD caps ρ) (os ++ capV caps σ) := by
  have lc : (capD caps ρ).length = (capV caps σ).length := by unfold capD capV; simp
  refine ⟨by rw [List.length_append, List.length_append, List.length_replicate, hl, lc], fun i d' e => ?_⟩
  by_cases hi : i < n
  · rw [List.getElem?_append_left (by rw [List.length_replicate]; exact hi), List.getElem?_replicate, if_pos hi] at e
    cases e
  · rw [List.getElem?_append_right (by rw [List.length_replicate]; omega), List.length_replicate] at e
    rw [List.getElem?_append_right (by omega), hl]
    unfold capD at e
    unfold capV
    rw [List.getElem?_map] at e ⊢
    cases q : caps[i - n]? with
    | none => rw [q] at e; cases e
    | some j =>
      rw [q] at e
      have e : (ρ[j]?).join = some d' := Option.some.inj e
      have e : ρ[j]? = some (some d') := by
        cases z : ρ[j]? with
        | none => rw [z] at e; cases e
        | some o => rw [z] at e; exact congrArg some e
      obtain ⟨v, hv, dn⟩ := h.ats j d' e
      exact ⟨v, by show some ((σ[j]?).join) = _; rw [hv]; rfl, dn⟩
section
variable {X : Cx} {R : St → XK} {elt iter c : Expr} {x y : Str} {px py tp : Pos} {scope : Scope} {pos : Pos} {ti : DK} {tc : DT} {te : DE} {ys : List Str} {caps : List Nat} {kk : Nat}
end
end L2

set_option Elab.async false
set_option linter.all false
set_option maxRecDepth 100000
set_option maxHeartbeats 4000000
namespace L2
open PySem PySem.Spec PyProof.Rows
/-! ### t[k:] of a tuple, k from 1 on -/
theorem cutV_drop (xs : List V) (k : Nat) : cutV xs (some (k : Int)) none = xs.drop k := by
  unfold cutV
  rw [HT.sIx_nat, HT.sIx_none]
  by_cases h : k ≤ xs.length
  · rw [Nat.min_eq_left h, List.take_of_length_le (by rw [List.length_drop]; omega)]
  · rw [Nat.min_eq_right (by omega), List.drop_eq_nil_of_le (Nat.le_refl _), List.drop_eq_nil_of_le (by omega)]; simp
def dSlT (te tl : DE) : DE := fun ρ M q x => te ρ M (fun d M1 => tl ρ M1 (fun di M2 => ∃ ds n, d = .tup ds ∧ di = .int (n : Nat) ∧ 1 ≤ n ∧ 1 ≤ ds.length ∧ q (.tup (ds.drop n)) M2) x) x
end L2

set_option Elab.async false
set_option linter.all false
set_option maxRecDepth 100000
set_option maxHeartbeats 4000000
namespace L2
open PySem PySem.Spec PyProof.Rows
/-! ### dicts by texts and whole numbers -/
def keyD : Dt → Option Key
  | .int i => some (.inl i)
  | .str z => some (.inr z)
  | _ => none
def dctGet (ks : List Key) (ds : List Dt) (k : Key) : Option Dt := ((ks.zip ds).find? fun p => decide (p.1 = k)).map (·.2)
def dDGet (to ti : DE) : DE := fun ρ M q x => to ρ M (fun d M1 => ti ρ M1 (fun di M2 => ∃ k ks ds key v, d = .loc k ∧ M2[k]? = some (.dct ks ds) ∧ keyD di = some key ∧ dctGet ks ds key = some v ∧ q v M2) x) x
def tCs (z : Str) : TE := fun _ H Q => Q (.str z) H
section
variable {X : Cx} {R : St → XK} {o i e : Expr} {to ti te : DE} {pos p : Pos} {k' : Nat}
end
/-! ### a dict of the module, texts by texts -/
structure TopD (K : PySem.W.Frag) (w : World) (mg : Str → Option Value) (x : Str) (tab : List (Str × Str)) : Prop where
  ex : ∃ a es n, mg x = some (.ref a) ∧ K.lookup a = some ⟨.type "dict", none, .dict es n, #[]⟩ ∧ PySem.W.KeysLit w.params es.toList ∧ ∀ z y, tab.lookup z = some y → ∃ tk, PySem.W.nsIn K a z = some (some (.str y tk))
def dTop (tab : List (Str × Str)) (ti : DE) : DE := fun ρ M q x => ti ρ M (fun d M1 => ∃ z y, d = .str z ∧ tab.lookup z = some y ∧ q (.str y) M1) x
def tTop (tab : List (Str × Str)) (ti : TE) : TE := fun σ H Q => ti σ H fun v H1 => ∃ z y, v = .str z ∧ tab.lookup z = some y ∧ Q (.str y) H1
section
variable {X : Cx} {R : St → XK} {i : Expr} {pos p : Pos} {x : Str} {tab : List (Str × Str)}
end
end L2

set_option Elab.async false
set_option linter.all false
set_option maxRecDepth 100000
set_option maxHeartbeats 4000000
namespace L2
open PySem PySem.Spec PyProof.Rows
/-! ### == of what is nested -/
inductive EqH (K : PySem.W.Frag) (H : Hp) : Nat → V → V → Bool → Prop
  | flat {n : Nat} {x y : V} (h1 : flatV x = true) (h2 : flatV y = true) : EqH K H n x y (eqV x y)
  | tup {n : Nat} {a b : Addr} {xs ys : List V} {f : Nat → Bool} (h1 : SqT K H a xs) (h2 : SqT K H b ys) (h : ∀ j x y, xs[j]? = some x → ys[j]? = some y → EqH K H n x y (f j)) : EqH K H (n + 1) (.ref a) (.ref b) ((List.range (min xs.length ys.length)).all f && xs.length == ys.length)
  | lst {n : Nat} {a b : Addr} {xs ys : List V} {f : Nat → Bool} (h1 : SqL K H a xs) (h2 : SqL K H b ys) (hl : xs.length = ys.length) (h : ∀ j x y, xs[j]? = some x → ys[j]? = some y → EqH K H n x y (f j)) : EqH K H (n + 1) (.ref a) (.ref b) ((List.range xs.length).all f)
  | len {n : Nat} {a b : Addr} {xs ys : List V} (h1 : SqL K H a xs) (h2 : SqL K H b ys) (hl : xs.length ≠ ys.length) : EqH K H (n + 1) (.ref a) (.ref b) false
theorem eqV_self {x : V} (h : flatV x = true) : eqV x x = true := by
  cases x <;> first | rfl | (show (_ == _) = true; simp) | cases h
section
variable {X : Cx} {pins : List (Addr × Obj)} {σ : St} {H : Hp} {s : Shared}
theorem eqH_same (I : Inv X pins σ H s) {n : Nat} {x y : V} {b : Bool} (h : EqH X.K H n x y b) : x = y → b = true := by
  induction h with
  | flat h1 h2 => intro e; subst e; exact eqV_self h1
  | @tup n a b xs ys f h1 h2 h ih =>
    intro e
    cases e
    cases I.tuple_inj h1 h2
    rw [Nat.min_self, beq_self_eq_true, Bool.and_true]
    refine List.all_eq_true.mpr fun j hj => ?_
    have hj := List.mem_range.mp hj
    exact ih j _ _ (List.getElem?_eq_getElem hj) (List.getElem?_eq_getElem hj) rfl
  | @lst n a b xs ys f h1 h2 hl h ih =>
    intro e
    cases e
    cases I.list_inj h1 h2
    refine List.all_eq_true.mpr fun j hj => ?_
    have hj := List.mem_range.mp hj
    exact ih j _ _ (List.getElem?_eq_getElem hj) (List.getElem?_eq_getElem hj) rfl
  | len h1 h2 hl =>
    intro e
    cases e
    cases I.list_inj h1 h2
    exact absurd rfl hl
theorem items_at {xs : List V} {its : List Value} (r : Vals xs its) {j : Nat} (h : j < its.toArray.size) : ∃ x, xs[j]? = some x ∧ RelV x its.toArray[j] := by
  have hj : j < its.length := by simpa using h
  have hx : j < xs.length := by rw [r.length]; exact hj
  obtain ⟨u, g, ru⟩ := r.get (List.getElem?_eq_getElem hx)
  rw [List.getElem?_eq_getElem hj] at g
  cases g
  exact ⟨_, List.getElem?_eq_getElem hx, by simpa using ru⟩
theorem eqAt_H (I : Inv X pins σ H s) {n : Nat} {x y : V} {b : Bool} (h : EqH X.K H n x y b) : ∀ {A : Around} {u v : Value}, RelV x u → RelV y v → A.units + n < cLine → SeqAt.EqAt A s u v b := by
  induction h with
  | flat h1 h2 => exact fun ru rv _ => eqAt_V ru rv h1 h2
  | @tup n a b xs ys f h1 h2 h ih =>
    intro A u v ru rv hu
    cases ru
    cases rv
    by_cases e : a = b
    · have := eqH_same I (.tup h1 h2 h) (congrArg V.ref e)
      rw [this, e]
      exact SeqAt.EqAt.same _
    · obtain ⟨i1, v1, t1, _⟩ := I.tuple h1
      obtain ⟨i2, v2, t2, _⟩ := I.tuple h2
      have := SeqAt.RcAt.tuples (A := A) (e := f) (show s.heap.IsTuple a i1.toArray from t1) (show s.heap.IsTuple b i2.toArray from t2) (by omega) (fun j g1 g2 => by
        obtain ⟨x, hx, rx⟩ := items_at v1 g1
        obtain ⟨y, hy, ry⟩ := items_at v2 g2
        exact ih j x y hx hy rx ry (by show A.units + 1 + n < cLine; omega))
      rw [List.size_toArray, List.size_toArray, ← v1.length, ← v2.length] at this
      exact SeqAt.EqAt.of_refs e this
  | @lst n a b xs ys f h1 h2 hl h ih =>
    intro A u v ru rv hu
    cases ru
    cases rv
    by_cases e : a = b
    · have := eqH_same I (.lst h1 h2 hl h) (congrArg V.ref e)
      rw [this, e]
      exact SeqAt.EqAt.same _
    · obtain ⟨i1, v1, t1, _⟩ := I.list h1
      obtain ⟨i2, v2, t2, _⟩ := I.list h2
      have := SeqAt.RcAt.lists (A := A) (e := f) t1.isList t2.isList (by rw [List.size_toArray, List.size_toArray, ← v1.length, ← v2.length]; exact hl) (by omega) (fun j g1 g2 => by
        obtain ⟨x, hx, rx⟩ := items_at v1 g1
        obtain ⟨y, hy, ry⟩ := items_at v2 g2
        exact ih j x y hx hy rx ry (by show A.units + 1 + n < cLine; omega))
      rw [List.size_toArray, ← v1.length] at this
      exact SeqAt.EqAt.of_refs e this
  | @len n a b xs ys h1 h2 hl =>
    intro A u v ru rv hu
    cases ru
    cases rv
    have e : a ≠ b := fun e => by
      subst e
      cases I.list_inj h1 h2
      exact hl rfl
    obtain ⟨i1, v1, t1, _⟩ := I.list h1
    obtain ⟨i2, v2, t2, _⟩ := I.list h2
    exact SeqAt.EqAt.of_refs e (SeqAt.RcAt.lists_lengths t1.isList t2.isList (by rw [List.size_toArray, List.size_toArray, ← v1.length, ← v2.length]; simpa using hl) (by omega))
end
/-- the two are tuples or lists -/
def rEqH (K : PySem.W.Frag) (n : Nat) : R2 := fun x y H Q => ∃ a b c, x = .ref a ∧ y = .ref b ∧ EqH K H n x y c ∧ Q (.bl c) H
def rNeH (K : PySem.W.Frag) (n : Nat) : R2 := fun x y H Q => ∃ a b c, x = .ref a ∧ y = .ref b ∧ EqH K H n x y c ∧ Q (.bl (!c)) H
section
variable {X : Cx}
theorem op_eqH {n : Nat} (hu : X.A.units + n < cLine) : OpR X (compareOp .Eq) (rEqH X.K n) := by
  intro pins s σ H x y v u Q I rx ry h
  obtain ⟨a, b, c, rfl, rfl, h, q⟩ := h
  cases rx
  cases ry
  cases h with
  | flat h1 h2 => cases h1
  | @tup n _ _ xs ys f h1 h2 h =>
    obtain ⟨i1, v1, t1, _⟩ := I.tuple h1
    obtain ⟨i2, v2, t2, _⟩ := I.tuple h2
    refine SeqAt.eq_tupleAt (e := f) (show s.heap.IsTuple a i1.toArray from t1) (show s.heap.IsTuple b i2.toArray from t2) (by omega) (fun j g1 g2 => ?_) ?_
    · obtain ⟨x, hx, rx⟩ := items_at v1 g1
      obtain ⟨y, hy, ry⟩ := items_at v2 g2
      exact eqAt_H I (h j x y hx hy) rx ry (by show X.A.units + 1 + n < cLine; omega)
    · rw [List.size_toArray, List.size_toArray, ← v1.length, ← v2.length]
      exact ⟨.bl _, H, I, rfl, q⟩
  | @lst n _ _ xs ys f h1 h2 hl h =>
    obtain ⟨i1, v1, t1, _⟩ := I.list h1
    obtain ⟨i2, v2, t2, _⟩ := I.list h2
    refine SeqAt.eq_listAt (e := f) t1.isList t2.isList (by rw [List.size_toArray, List.size_toArray, ← v1.length, ← v2.length]; exact hl) (by omega) (fun j g1 g2 => ?_) ?_
    · obtain ⟨x, hx, rx⟩ := items_at v1 g1
      obtain ⟨y, hy, ry⟩ := items_at v2 g2
      exact eqAt_H I (h j x y hx hy) rx ry (by show X.A.units + 1 + n < cLine; omega)
    · rw [List.size_toArray, ← v1.length]
      exact ⟨.bl _, H, I, rfl, q⟩
  | @len n _ _ xs ys h1 h2 hl =>
    obtain ⟨i1, v1, t1, _⟩ := I.list h1
    obtain ⟨i2, v2, t2, _⟩ := I.list h2
    exact SeqAt.eq_list_lengthsAt t1.isList t2.isList (by rw [List.size_toArray, List.size_toArray, ← v1.length, ← v2.length]; simpa using hl) (by omega) ⟨.bl _, H, I, rfl, q⟩
theorem op_neH {n : Nat} (hu : X.A.units + n < cLine) : OpR X (compareOp .NotEq) (rNeH X.K n) := by
  intro pins s σ H x y v u Q I rx ry h
  obtain ⟨a, b, c, rfl, rfl, h, q⟩ := h
  cases rx
  cases ry
  cases h with
  | flat h1 h2 => cases h1
  | @tup n _ _ xs ys f h1 h2 h =>
    obtain ⟨i1, v1, t1, _⟩ := I.tuple h1
    obtain ⟨i2, v2, t2, _⟩ := I.tuple h2
    refine SeqAt.RcNeAt.tuples (e := f) (show s.heap.IsTuple a i1.toArray from t1) (show s.heap.IsTuple b i2.toArray from t2) (by omega) (fun j g1 g2 => ?_) _ _ _ _ ?_
    · obtain ⟨x, hx, rx⟩ := items_at v1 g1
      obtain ⟨y, hy, ry⟩ := items_at v2 g2
      exact eqAt_H I (h j x y hx hy) rx ry (by show X.A.units + 1 + n < cLine; omega)
    · rw [List.size_toArray, List.size_toArray, ← v1.length, ← v2.length]
      exact ⟨.bl _, H, I, rfl, q⟩
  | @lst n _ _ xs ys f h1 h2 hl h =>
    obtain ⟨i1, v1, t1, _⟩ := I.list h1
    obtain ⟨i2, v2, t2, _⟩ := I.list h2
    refine SeqAt.RcNeAt.lists (e := f) t1.isList t2.isList (by rw [List.size_toArray, List.size_toArray, ← v1.length, ← v2.length]; exact hl) (by omega) (fun j g1 g2 => ?_) _ _ _ _ ?_
    · obtain ⟨x, hx, rx⟩ := items_at v1 g1
      obtain ⟨y, hy, ry⟩ := items_at v2 g2
      exact eqAt_H I (h j x y hx hy) rx ry (by show X.A.units + 1 + n < cLine; omega)
    · rw [List.size_toArray, ← v1.length]
      exact ⟨.bl _, H, I, rfl, q⟩
  | @len n _ _ xs ys h1 h2 hl =>
    obtain ⟨i1, v1, t1, _⟩ := I.list h1
    obtain ⟨i2, v2, t2, _⟩ := I.list h2
    exact SeqAt.RcNeAt.lists_lengths t1.isList t2.isList (by rw [List.size_toArray, List.size_toArray, ← v1.length, ← v2.length]; simpa using hl) (by omega) _ _ _ _ ⟨.bl _, H, I, rfl, q⟩
end
/-! data -/
def lstQ (M : Ms) : Dt → Option (List Dt)
  | .lst xs => some xs
  | .scr ns => some (ns.map .int)
  | .loc k => match M[k]? with
    | some (.lst xs) => some xs
    | _ => none
  | _ => none
inductive EqM (M : Ms) : Nat → Dt → Dt → Bool → Prop
  | flat {n : Nat} {d e : Dt} {x y : V} (h1 : flatD d = some x) (h2 : flatD e = some y) : EqM M n d e (eqV x y)
  | tup {n : Nat} {ds es : List Dt} {f : Nat → Bool} (h : ∀ j d e, ds[j]? = some d → es[j]? = some e → EqM M n d e (f j)) : EqM M (n + 1) (.tup ds) (.tup es) ((List.range (min ds.length es.length)).all f && ds.length == es.length)
  | lst {n : Nat} {d e : Dt} {ds es : List Dt} {f : Nat → Bool} (h1 : lstQ M d = some ds) (h2 : lstQ M e = some es) (hl : ds.length = es.length) (h : ∀ j d e, ds[j]? = some d → es[j]? = some e → EqM M n d e (f j)) : EqM M (n + 1) d e ((List.range ds.length).all f)
  | len {n : Nat} {d e : Dt} {ds es : List Dt} (h1 : lstQ M d = some ds) (h2 : lstQ M e = some es) (hl : ds.length ≠ es.length) : EqM M (n + 1) d e false
theorem lstQ_is {K : PySem.W.Frag} {G : Hp} {L : List Addr} {M : Ms} {H : Hp} {d : Dt} {v : V} {xs : List Dt} (r : Rl K G L M H) (n : Den K G L d v) (h : lstQ M d = some xs) : ∃ a vs, v = .ref a ∧ SqL K H a vs ∧ DenL K G L xs vs := by
  cases d with
  | lst ds => cases h; obtain ⟨a, vs, rfl, e, m⟩ := n; exact ⟨a, vs, rfl, .of (r.sub _ _ e), m⟩
  | scr ns => cases h; obtain ⟨a, rfl, e⟩ := n; exact ⟨a, _, rfl, r.sub.seq e, denL_ints⟩
  | loc k =>
    obtain ⟨a, rfl, e⟩ := n
    have h : (match M[k]? with | some (.lst xs) => some xs | _ => none) = some xs := h
    split at h
    · rename_i ys hm
      cases h
      obtain ⟨_, vs, e1, m1⟩ := r.ats k a _ e hm
      exact ⟨a, vs, rfl, .of e1, m1⟩
    · cases h
  | _ => cases h
theorem DenL.back {K : PySem.W.Frag} {G : Hp} {L : List Addr} {ds : List Dt} {vs : List V} {i : Nat} {v : V} (h : DenL K G L ds vs) (e : vs[i]? = some v) : ∃ d, ds[i]? = some d ∧ Den K G L d v := by
  have hi : i < ds.length := by rw [h.length]; exact (List.getElem?_eq_some_iff.mp e).1
  obtain ⟨v', e', n⟩ := h.get (List.getElem?_eq_getElem hi)
  rw [e] at e'
  cases e'
  exact ⟨_, List.getElem?_eq_getElem hi, n⟩
theorem eqM_H {K : PySem.W.Frag} {G : Hp} {L : List Addr} {M : Ms} {H : Hp} (r : Rl K G L M H) {n : Nat} {d e : Dt} {b : Bool} (h : EqM M n d e b) : ∀ {v u : V}, Den K G L d v → Den K G L e u → EqH K H n v u b := by
  induction h with
  | flat h1 h2 =>
    intro v u n1 n2
    obtain ⟨rfl, f1⟩ := flatD_is h1 n1
    obtain ⟨rfl, f2⟩ := flatD_is h2 n2
    exact .flat f1 f2
  | @tup n ds es f h ih =>
    intro v u n1 n2
    obtain ⟨a, vs, rfl, e1, m1⟩ := n1
    obtain ⟨b, us, rfl, e2, m2⟩ := n2
    rw [m1.length, m2.length]
    refine .tup (.of (r.sub _ _ e1)) (.of (r.sub _ _ e2)) fun j x y hx hy => ?_
    obtain ⟨d, hd, dn⟩ := m1.back hx
    obtain ⟨e, he, en⟩ := m2.back hy
    exact ih j d e hd he dn en
  | @lst n d e ds es f h1 h2 hl h ih =>
    intro v u n1 n2
    obtain ⟨a, vs, rfl, s1, m1⟩ := lstQ_is r n1 h1
    obtain ⟨b, us, rfl, s2, m2⟩ := lstQ_is r n2 h2
    rw [m1.length]
    refine .lst s1 s2 (by rw [← m1.length, ← m2.length]; exact hl) fun j x y hx hy => ?_
    obtain ⟨d, hd, dn⟩ := m1.back hx
    obtain ⟨e, he, en⟩ := m2.back hy
    exact ih j d e hd he dn en
  | @len n d e ds es h1 h2 hl =>
    intro v u n1 n2
    obtain ⟨a, vs, rfl, s1, m1⟩ := lstQ_is r n1 h1
    obtain ⟨b, us, rfl, s2, m2⟩ := lstQ_is r n2 h2
    exact .len s1 s2 (by rw [← m1.length, ← m2.length]; exact hl)
def NonF (M : Ms) (d : Dt) : Prop := (∃ ds, d = .tup ds) ∨ ∃ xs, lstQ M d = some xs
theorem nonF_is {K : PySem.W.Frag} {G : Hp} {L : List Addr} {M : Ms} {H : Hp} {d : Dt} {v : V} (r : Rl K G L M H) (n : Den K G L d v) (h : NonF M d) : ∃ a, v = .ref a := by
  rcases h with ⟨ds, rfl⟩ | ⟨xs, h⟩
  · obtain ⟨a, vs, rfl, _⟩ := n; exact ⟨a, rfl⟩
  · obtain ⟨a, vs, rfl, _⟩ := lstQ_is r n h; exact ⟨a, rfl⟩
def fEqM (n : Nat) : Dt → Dt → Ms → DQ → Prop := fun d e M q => ∃ b, NonF M d ∧ NonF M e ∧ EqM M n d e b ∧ q (.bl b) M
def fNeM (n : Nat) : Dt → Dt → Ms → DQ → Prop := fun d e M q => ∃ b, NonF M d ∧ NonF M e ∧ EqM M n d e b ∧ q (.bl (!b)) M
theorem eqMD {K : PySem.W.Frag} {n : Nat} : OpD K (rEqH K n) (fEqM n) := by
  intro G0 L0 H0 G L M H v1 v2 d1 d2 q e r n1 n2 ⟨b, h1, h2, h, hq⟩
  obtain ⟨a, rfl⟩ := nonF_is r n1 h1
  obtain ⟨a', rfl⟩ := nonF_is r n2 h2
  exact ⟨a, a', b, rfl, rfl, eqM_H r h n1 n2, fin_v e r hq⟩
theorem neMD {K : PySem.W.Frag} {n : Nat} : OpD K (rNeH K n) (fNeM n) := by
  intro G0 L0 H0 G L M H v1 v2 d1 d2 q e r n1 n2 ⟨b, h1, h2, h, hq⟩
  obtain ⟨a, rfl⟩ := nonF_is r n1 h1
  obtain ⟨a', rfl⟩ := nonF_is r n2 h2
  exact ⟨a, a', b, rfl, rfl, eqM_H r h n1 n2, fin_v e r hq⟩
section
variable {X : Cx} {R : St → XK} {a b e l u : Expr} {ta tb te tl tu : DE} {t : DA} {pos p p2 : Pos} {k' : Nat}
theorem hu_n {A : Around} {k n : Nat} (hr : Room k A) (hn : n ≤ 64) : A.units + n < cLine := Nat.lt_of_le_of_lt (Nat.add_le_add_left hn _) hr.units
theorem j_eqM (n : Nat) (hr : Room k' X.A) (ja : JE X R a ta) (jb : JE X R b tb) (hn : n ≤ 64 := by decide) (hm : behindInMarks .Eq b = false := by rfl) : JE X R (.Compare a [.Eq] [b] pos) (dOp (fEqM n) ta tb) := j_cmp (op_eqH (hu_n hr hn)) eqMD ja jb hm
theorem jt_neM (n : Nat) (hr : Room k' X.A) (ja : JE X R a ta) (jb : JE X R b tb) (hn : n ≤ 64 := by decide) (hm : behindInMarks .NotEq b = false := by rfl) : JT X R (.Compare a [.NotEq] [b] pos) (tstD (dOp (fNeM n) ta tb)) := jt_cmp (op_neH (hu_n hr hn)) neMD ja jb hm
/-! ### xs[k:] and xs[:k] of a list, a new list -/
theorem cutV_take (xs : List V) (k : Nat) : cutV xs none (some (k : Int)) = xs.take k := by
  unfold cutV
  rw [HT.sIx_nat, HT.sIx_none, List.drop_zero, Nat.sub_zero]
  by_cases h : k ≤ xs.length
  · rw [Nat.min_eq_left h]
  · rw [Nat.min_eq_right (by omega), List.take_of_length_le (Nat.le_refl _), List.take_of_length_le (by omega)]
def dSlL (te tl : DE) : DE := fun ρ M q x => te ρ M (fun d M1 => tl ρ M1 (fun di M2 => ∃ ds n, lstQ M2 d = some ds ∧ di = .int (n : Nat) ∧ q (.loc M2.length) (M2 ++ [.lst (ds.drop n)])) x) x
theorem j_slFromL (he : JE X R e te) (hl : JE X R l tl) : JE X R (.Subscript e (.Slice (some l) none none p2) pos) (dSlL te tl) :=
  .of (pe_slice sl_list he (po_some hl) po_none) fun σ H G L ρ M q x rl n h hx => by
    refine ⟨G, L, ρ, M, _, x, rl, n, h, hx, fun v H1 ⟨d1, G1, L1, M1, e1, r1, n1, h1⟩ => ?_⟩
    refine ⟨G1, L1, ρ, M1, _, x, r1, n.mono e1, h1, hx.on e1, fun v2 H2 ⟨d2, G2, L2, M2, e2, r2, n2, ds, k, ed, ei, h2⟩ => ?_⟩
    subst ei
    obtain ⟨a, vs, rfl, sq, m⟩ := lstQ_is r2 (Den.mono e2.g e2.l _ _ n1) ed
    have n2 : v2 = .int k := n2
    subst n2
    refine ⟨k, rfl, a, vs, rfl, sq, fun p hp => ?_⟩
    rw [cutV_drop]
    exact fin_loc (e1.trans e2) r2 hp (DenL.of (prd_drop k m.pair)) h2
end
end L2

set_option Elab.async false
set_option linter.all false
set_option maxRecDepth 100000
set_option maxHeartbeats 4000000
namespace L2
open PySem PySem.Spec PyProof.Rows
/-! ### max, min of a list of whole numbers -/
def rMaxL (K : PySem.W.Frag) : List V → Hp → VK → Prop := fun xs H Q => ∃ (p : Addr) (ns : List Int), xs = [.ref p] ∧ SqL K H p (ns.map V.int) ∧ ns ≠ [] ∧ ∀ m ∈ ns, (∀ a ∈ ns, a ≤ m) → Q (.int m) H
def rMinL (K : PySem.W.Frag) : List V → Hp → VK → Prop := fun xs H Q => ∃ (p : Addr) (ns : List Int), xs = [.ref p] ∧ SqL K H p (ns.map V.int) ∧ ns ≠ [] ∧ ∀ m ∈ ns, (∀ a ∈ ns, m ≤ a) → Q (.int m) H
def fMaxL : List Dt → Ms → DQ → Prop
  | [d], M, q => ∃ ns : List Int, lstQ M d = some (ns.map .int) ∧ ns ≠ [] ∧ ∀ m ∈ ns, (∀ a ∈ ns, a ≤ m) → q (.int m) M
  | _, _, _ => False
def fMinL : List Dt → Ms → DQ → Prop
  | [d], M, q => ∃ ns : List Int, lstQ M d = some (ns.map .int) ∧ ns ≠ [] ∧ ∀ m ∈ ns, (∀ a ∈ ns, m ≤ a) → q (.int m) M
  | _, _, _ => False
/-! ### == and != of flat values of any kinds -/
def rEqV : R2 := fun x y H Q => flatV x = true ∧ flatV y = true ∧ Q (.bl (eqV x y)) H
def rNeV : R2 := fun x y H Q => flatV x = true ∧ flatV y = true ∧ Q (.bl (!eqV x y)) H
def fEqV : Dt → Dt → Ms → DQ → Prop := fun d e M q => ∃ x y, flatD d = some x ∧ flatD e = some y ∧ q (.bl (eqV x y)) M
def fNeV : Dt → Dt → Ms → DQ → Prop := fun d e M q => ∃ x y, flatD d = some x ∧ flatD e = some y ∧ q (.bl (!eqV x y)) M
section
variable {X : Cx} {R : St → XK} {a b e f o : Expr} {ta tb te tf to : DE} {t : DA} {pos p apos cpos : Pos} {k' : Nat}
/-! ### xs.clear() -/
def dClear (to : DE) : DE := fun ρ M q x => to ρ M (fun d M1 => ∃ k xs, d = .loc k ∧ M1[k]? = some (.lst xs) ∧ q .non (M1.set k (.lst []))) x
/-! ### d.get(k, x) -/
def dGet2 (to te tf : DE) : DE := fun ρ M q x => to ρ M (fun d M1 => (∃ k ks ds, d = .loc k ∧ M1[k]? = some (.dct ks ds)) ∧ te ρ M1 (fun dk M2 => tf ρ M2 (fun dx M3 => ∃ k ks ds key, d = .loc k ∧ M3[k]? = some (.dct ks ds) ∧ keyD dk = some key ∧ q ((dctGet ks ds key).getD dx) M3) x) x) x
end
end L2

set_option Elab.async false
set_option linter.all false
set_option maxRecDepth 100000
set_option maxHeartbeats 4000000
namespace L2
open PySem PySem.Spec PyProof.Rows
section
variable {X : Cx} {elt iter tg c : Expr} {xs : List Str} {scope : Scope} {pos : Pos} {wi : TI} {gg : TG} {tc : TT} {te : TE} {ys : List Str} {caps : List Nat}
end
section
variable {X : Cx} {R : St → XK} {elt iter c : Expr} {x y : Str} {px py tp : Pos} {scope : Scope} {pos : Pos} {ti : DK} {tc : DT} {te : DE} {ys : List Str} {caps : List Nat} {kk : Nat}
end
section
variable {X : Cx} {R : St → XK} {elt iter c : Expr} {x z : Str} {px pz tp : Pos} {scope : Scope} {pos : Pos} {ti : DK} {tc : DT} {te : DE} {ys : List Str} {caps : List Nat} {kk : Nat}
end
end L2

set_option Elab.async false
set_option linter.all false
set_option maxRecDepth 100000
set_option maxHeartbeats 4000000
namespace L2
open PySem PySem.Spec PyProof.Rows
/-! ### a + b of lists that may change -/
def lstR (M : Ms) : Dt → Option (List Dt)
  | .lst xs => some xs
  | .loc k => match M[k]? with
    | some (.lst xs) => some xs
    | _ => none
  | _ => none
theorem lstR_is {K : PySem.W.Frag} {G : Hp} {L : List Addr} {M : Ms} {H : Hp} {d : Dt} {v : V} {xs : List Dt} (r : Rl K G L M H) (n : Den K G L d v) (h : lstR M d = some xs) : ∃ a vs, v = .ref a ∧ H a = some (.lst vs) ∧ DenL K G L xs vs := by
  cases d with
  | lst ds => cases h; obtain ⟨a, vs, rfl, e, m⟩ := n; exact ⟨a, vs, rfl, r.sub _ _ e, m⟩
  | loc k =>
    obtain ⟨a, rfl, e⟩ := n
    have h : (match M[k]? with | some (.lst xs) => some xs | _ => none) = some xs := h
    split at h
    · rename_i ys hm
      cases h
      obtain ⟨_, vs, e1, m1⟩ := r.ats k a _ e hm
      exact ⟨a, vs, rfl, e1, m1⟩
    · cases h
  | _ => cases h
def fCatL : Dt → Dt → Ms → DQ → Prop := fun d e M q => ∃ xs ys, lstR M d = some xs ∧ lstR M e = some ys ∧ xs.length + ys.length ≤ sizeLine ∧ q (.lst (xs ++ ys)) M
theorem catLD {K : PySem.W.Frag} : OpD K rCat fCatL := by
  intro G0 L0 H0 G L M H v1 v2 d1 d2 q e r n1 n2 ⟨xs, ys, h1, h2, hz, hq⟩
  obtain ⟨p1, w1, rfl, e1, m1⟩ := lstR_is r n1 h1
  obtain ⟨p2, w2, rfl, e2, m2⟩ := lstR_is r n2 h2
  refine ⟨p1, p2, w1, w2, rfl, rfl, e1, e2, by rw [← m1.length, ← m2.length]; exact hz, fun p hp => ?_⟩
  exact fin_new e r hp (den_lst r hp (m1.app m2)) hq
section
variable {X : Cx} {R : St → XK} {a b : Expr} {ta tb : DE} {pos : Pos}
theorem j_catL (ja : JE X R a ta) (jb : JE X R b tb) : JE X R (.BinOp a .Add b pos) (dOp fCatL ta tb) := j_op op_cat catLD ja jb
end
end L2

set_option Elab.async false
set_option linter.all false
set_option maxRecDepth 100000
set_option maxHeartbeats 4000000
namespace L2
open PySem PySem.Spec PyProof.Rows
/-! ### xs[::-1], xs[:k] of a list: a new list -/
section
variable {X : Cx} {e l : Expr} {te tl : TE} {pos p2 : Pos}
def tRev (K : PySem.W.Frag) (te tl : TE) : TE := fun σ H Q => te σ H fun x H1 => tl σ H1 fun y H2 => ∃ i : Int, y = .int i ∧ some i = some (-1 : Int) ∧ ∃ a xs, x = .ref a ∧ SqL K H2 a xs ∧ ∀ p, H2 p = none → Q (.ref p) (upd H2 p (.lst xs.reverse))
end
section
variable {X : Cx} {R : St → XK} {e l : Expr} {te tl : DE} {pos p2 : Pos}
def dRevL (te tl : DE) : DE := fun ρ M q x => te ρ M (fun d M1 => tl ρ M1 (fun di M2 => ∃ ds, lstQ M2 d = some ds ∧ di = .int (-1) ∧ q (.loc M2.length) (M2 ++ [.lst ds.reverse])) x) x
def dSlToL (te tl : DE) : DE := fun ρ M q x => te ρ M (fun d M1 => tl ρ M1 (fun di M2 => ∃ ds n, lstQ M2 d = some ds ∧ di = .int (n : Nat) ∧ q (.loc M2.length) (M2 ++ [.lst (ds.take n)])) x) x
theorem j_slToL (he : JE X R e te) (hl : JE X R l tl) : JE X R (.Subscript e (.Slice none (some l) none p2) pos) (dSlToL te tl) :=
  .of (pe_slice sl_list he po_none (po_some hl)) fun σ H G L ρ M q x rl n h hx => by
    refine ⟨G, L, ρ, M, _, x, rl, n, h, hx, fun v H1 ⟨d1, G1, L1, M1, e1, r1, n1, h1⟩ => ?_⟩
    refine ⟨G1, L1, ρ, M1, _, x, r1, n.mono e1, h1, hx.on e1, fun v2 H2 ⟨d2, G2, L2, M2, e2, r2, n2, ds, k, ed, ei, h2⟩ => ?_⟩
    subst ei
    obtain ⟨a, vs, rfl, sq, m⟩ := lstQ_is r2 (Den.mono e2.g e2.l _ _ n1) ed
    have n2 : v2 = .int k := n2
    subst n2
    refine ⟨k, rfl, a, vs, rfl, sq, fun p hp => ?_⟩
    rw [cutV_take]
    exact fin_loc (e1.trans e2) r2 hp (DenL.of (prd_take k m.pair)) h2
end
end L2

set_option Elab.async false
set_option linter.all false
set_option maxRecDepth 100000
set_option maxHeartbeats 4000000
namespace L2
open PySem PySem.Spec PyProof.Rows
/-! ### comprehensions of two names, without a test -/
theorem compTurn_list0 (elt target iter : Expr) (scope : Scope) (pos : Pos) (it acc : Value) (env : Env) :
    compTurn (.ListComp elt [⟨target, iter, [], 0⟩] scope pos) 0 it acc env = (standAt iter.pos >>= fun _ => pyNext it >>= fun r => match r with
      | none => pure (.done .next)
      | some v => letOwnedTupleGo target it v >>= fun _ => assign target env v >>= fun _ =>
        (eval elt env >>= fun x => call (.builtin "list.append") [acc, x] >>= fun _ => pure ()) >>= fun _ => again (.compLoop (.ListComp elt [⟨target, iter, [], 0⟩] scope pos) 0 it acc env)) := by
  unfold compTurn
  dsimp only [List.getElem?_cons_zero, List.getElem?_cons_succ, List.getElem?_nil]
  simp only [List.forIn_cons, List.forIn_nil, bind_assoc, pure_bind, if_true]
  rfl
def CompR2 (J : It) (n : Nat) (gg : TG) (te : TE) (cs : St) (Q : VK) (H1 : Hp) (D : Addr) : Prop :=
  ∃ W : Nat → Nat → List V → Hp → Prop, (∃ m, W 0 m [] (upd H1 D (.lst []))) ∧ ∀ i m ys H2, W i m ys H2 → H2 D = some (.lst ys) ∧
    ((J.stop i H2 ∧ Q (.ref D) H2) ∨ (J.go i H2 ∧ ∀ x H3, J.yld i H2 x H3 → ∀ os : St, os.length = n → gg x (os ++ cs) H3 fun σ' H3' => te σ' H3' fun y H5 => H5 D = some (.lst ys) ∧ ys.length < sizeLine ∧ ∃ m', m' < m ∧ W (i + 1) m' (ys ++ [y]) (upd H5 D (.lst (ys ++ [y])))))
def tComp2 (wi : TI) (n : Nat) (gg : TG) (te : TE) (caps : List Nat) : TE := fun σ H Q => wi σ H fun J H1 => ∀ D, H1 D = none → CompR2 J n gg te (capV caps σ) Q H1 D
section
variable {X : Cx} {elt iter tg : Expr} {xs : List Str} {scope : Scope} {pos : Pos} {wi : TI} {gg : TG} {te : TE} {ys : List Str} {caps : List Nat}
/-- the block runs; what stands behind it -/
theorem comp_run2 (S : CompScopeT X scope xs ys caps) (hc : X.calm = true) (hg : ∀ C s H fp, PG (Cx.comp X (xs ++ ys) scope C s H fp) tg gg) (hk : Keeps xs.length gg) (he : ∀ C s H fp, PE (Cx.comp X (xs ++ ys) scope C s H fp) elt te)
    {pins : List (Addr × Obj)} {σ : St} {H2 : Hp} {s2 : Shared} {it : Addr} {fp : List Addr} {tn : Nat → Heap → Prop} {J : It} {Q : V → Hp → Prop} {PQ : Value → Addr → Result → Shared → Prop} (I : Inv X pins σ H2 s2) (T : Turn X.prog X.w X.K tg J fp it tn) (t0 : tn 0 s2.heap) (f2 : ∀ b ∈ fp, FpOk X pins H2 b)
    (h : ∀ D, H2 D = none → CompR2 J xs.length gg te (capV caps σ) Q H2 D)
    (hPQ : ∀ D C s' H', Inv X pins σ H' s' → Q (.ref D) H' → (∃ m, s'.heap.Ns C m) → H' C = none → X.s₀.heap.objs.size ≤ C → C ≠ X.env.locals → (∀ z c, X.env.cells.lookup z = some c → c ≠ C) → (∀ p ∈ X.pn ++ pins, p.1 ≠ C) → PQ (.ref D) C (.ok .next) s') :
    wpAny (model X.prog X.w) X.A (newList []) (fun acc s3 => wpAny (model X.prog X.w) X.A (newFunctionEnv scope X.env.globals (clOf X.env scope.names []) [] X.env.qual none .none (some X.env)) (fun cenv s4 =>
      codeAny (model X.prog X.w) X.A (.compStart (.ListComp elt [⟨tg, iter, [], 0⟩] scope pos) 0 (.ref it) acc { cenv with scope := relabel scope X.env }) (PQ acc cenv.locals) s4) X.xe s3) X.xe s2 := by
  have hD : H2 s2.heap.objs.size = none := I.fresh
  obtain ⟨W, ⟨m0, w0⟩, step⟩ := h _ hD
  refine wpAny_newObj_type ?_
  have I3 : Inv X pins σ (upd H2 s2.heap.objs.size (.lst [])) { s2 with heap := s2.heap.push { cls := .type "list", data := .seq ([] : List Value).toArray } } := Inv.lnew (t' := s2.toks) I (ys := []) (its := []) .nil (Nat.zero_le _)
  generalize hH3 : upd H2 s2.heap.objs.size (.lst []) = H3 at I3 w0
  generalize hs3 : ({ s2 with heap := s2.heap.push { cls := .type "list", data := .seq ([] : List Value).toArray } } : Shared) = s3 at I3
  have hfp3 : ∀ b ∈ fp, H3 b = none := fun b hb => by
    obtain ⟨o, e, _⟩ := T.obj _ _ t0 b hb
    rw [← hH3, upd_ne (Nat.ne_of_lt (Heap.lt_size e))]
    exact (f2 b hb).1
  have t3 : tn 0 s3.heap := T.keep _ _ _ t0 fun b hb o e => by rw [← hs3]; exact Heap.get?_push_of_some _ e
  refine wpAny_newFunctionEnv S.nocell (fun y hy => nomatch hy) (fun h4 ns4 sb4 => ?_) S.kind
  have hC : H3 s3.heap.objs.size = none := I3.fresh
  have kp : ∀ b o, s3.heap.get? b = some o → h4.get? b = some o := fun b o e =>
    (sb4.2 b (Nat.ne_of_lt (Heap.lt_size e))).trans (Heap.get?_push_of_some _ e)
  generalize hs4 : ({ s3 with heap := h4, toks := s3.toks + ([] : List (Str × Value)).length } : Shared) = s4
  have e4 : s4.heap = h4 := by rw [← hs4]
  have cne : ∀ z c, X.env.cells.lookup z = some c → c ≠ s3.heap.objs.size := fun z c e q => by
    obtain ⟨v, w⟩ := I3.cell z c e
    exact Nat.lt_irrefl _ (q ▸ w.lt)
  have cl_in : ∀ z c, (clOf X.env scope.names []).lookup z = some c → X.env.cells.lookup z = some c := fun z c e => clOf_look scope.names [] (S.has I.ok) (fun q => nomatch q) e
  have Lne : s3.heap.objs.size ≠ X.env.locals := Nat.ne_of_gt I3.lt
  have ok : (Cx.comp X (xs ++ ys) scope s3.heap.objs.size s3 H3 fp).Ok := by
    refine ⟨I3.ok.mod, S.kind, I3.ok.glob, I3.ok.blt, Nat.le_refl _, fun z z' c e1 e2 => I3.ok.inj z z' c (cl_in z c e1) (cl_in z' c e2), fun z hz => ?_, fun z c hz => (by cases hz), I3.ok.hd, I3.ok.frames, .inl rfl, fun b hb => ⟨?_, fun z c e => ?_⟩, I3.bs, ?_, fun b o e hb => ?_, fun b hb hf => ?_, I3.stack, I3.stkFree⟩
    · have := clOf_has (env := X.env) scope.names [] (.inl (rel_in S.nocell hz))
      exact Option.isSome_iff_exists.mp this
    · obtain ⟨o, e, _⟩ := T.obj _ _ t3 b hb
      exact Nat.ne_of_lt (Heap.lt_size e)
    · exact (f2 b hb).2.2.2.2.1 z c (cl_in z c e)
    · exact Nat.le_trans I3.ok.bsz I3.sz
    · obtain ⟨_, _, _, hy, _⟩ := f2 b hb
      have e0 := (I3.ok.bs b o e).1
      rcases hy with hy | hy
      · exact I3.ok.noex b o e hy
      · exact absurd (Nat.lt_of_lt_of_le (Heap.lt_size e0) hy) (Nat.lt_irrefl _)
    · obtain ⟨_, hl, hfs, _⟩ := f2 b hb
      exact (List.mem_cons.mp (I3.stkSub b hf)).elim hl hfs
  have hlen : ((List.replicate xs.length (none : Option V)) ++ capV caps σ).length = (xs ++ ys).length := by
    rw [List.length_append, List.length_append, List.length_replicate, S.len]
    unfold capV
    rw [List.length_map]
  have I4 : Inv X pins σ H3 s4 := by
    rw [← hs4]
    exact I3.kept kp
  have Ic : Inv (Cx.comp X (xs ++ ys) scope s3.heap.objs.size s3 H3 fp) [] ((List.replicate xs.length (none : Option V)) ++ capV caps σ) H3 s4 := by
    refine ⟨ok, by rw [← hs4]; rfl, I4.bare, Un.kept (by rw [e4]; exact kp), ⟨_, by rw [e4]; exact ns4, fun i z v e1 e2 e3 => ?_⟩, fun z c e => I4.cell z c (cl_in z c e), hC, fun z c e => I4.freeC z c (cl_in z c e), (fun p hp => nomatch hp), I4.hok, hlen⟩
    have e1 : (xs ++ ys)[i]? = some z := e1
    by_cases hi : i < xs.length
    · rw [List.getElem?_append_left (by rw [List.length_replicate]; exact hi), List.getElem?_replicate, if_pos hi] at e2
      cases e2
    · obtain ⟨j, rfl⟩ : ∃ j, i = xs.length + j := ⟨i - xs.length, by omega⟩
      have e1 : ys[j]? = some z := by
        rw [List.getElem?_append_right (by omega), Nat.add_sub_cancel_left] at e1
        exact e1
      have e2 : (capV caps σ)[j]? = some (some v) := by
        rw [List.getElem?_append_right (by rw [List.length_replicate]; omega), List.length_replicate, Nat.add_sub_cancel_left] at e2
        exact e2
      unfold capV at e2
      rw [List.getElem?_map] at e2
      cases hi : caps[j]? with
      | none => rw [hi] at e2; cases e2
      | some i =>
        rw [hi] at e2
        have e2 : (σ[i]?).join = some v := Option.some.inj e2
        have e2 : σ[i]? = some (some v) := by
          cases q : σ[i]? with
          | none => rw [q] at e2; cases e2
          | some o => rw [q] at e2; exact congrArg some e2
        obtain ⟨c1, c2, c3⟩ := S.cap (z, i) (zip_at e1 hi)
        have c4 := rel_cell (env := X.env) I.ok.kind c2 c3
        have c3 : (z, NameKind.free) ∈ scope.names := PySem.mem_of_lookup c3
        obtain ⟨m, hn, hl⟩ := I4.loc
        obtain ⟨u, r, lk⟩ := hl i z v c1 e2 (.inr (.inl c2))
        refine ⟨u, r, .inr ⟨.inl c4, ?_⟩⟩
        rcases lk with ⟨k, _⟩ | ⟨_, c, hc', z'⟩
        · exact absurd ((show X.env.scope.names.lookup z = some .local from k).symm.trans c2) (by decide)
        · obtain ⟨d, hd⟩ := Option.isSome_iff_exists.mp (clOf_has (env := X.env) scope.names [] (.inl c3))
          have := cl_in z d hd
          rw [hc'] at this
          cases this
          exact ⟨c, hd, z'⟩
  have loop : codeAny (model X.prog X.w) X.A (.compLoop (.ListComp elt [⟨tg, iter, [], 0⟩] scope pos) 0 (.ref it) (.ref s2.heap.objs.size) (compEnvC scope (clOf X.env scope.names []) s3.heap.objs.size X.env)) (PQ (.ref s2.heap.objs.size) s3.heap.objs.size) s4 := by
    have fpC : ∀ {H' : Hp}, (∀ b ∈ fp, H' b = none) → ∀ b ∈ fp, FpOk (Cx.comp X (xs ++ ys) scope s3.heap.objs.size s3 H3 fp) [] H' b := fun hn b hb =>
      ⟨hn b hb, (ok.exf b hb).1, ok.exfs b hb, .inl hb, (ok.exf b hb).2, (fun p hp => nomatch hp)⟩
    refine codeAny_loop rfl (fun n s' => ∃ (i : Nat) (zs : List V) (os : St) (H' : Hp), os.length = xs.length ∧ Inv (Cx.comp X (xs ++ ys) scope s3.heap.objs.size s3 H3 fp) [] (os ++ capV caps σ) H' s' ∧ tn i s'.heap ∧ (∀ b ∈ fp, H' b = none) ∧ W i n zs H') (fun n s5 z => ?_) m0 ⟨0, [], List.replicate xs.length none, H3, by rw [List.length_replicate], Ic, T.keep _ _ _ t3 (fun b hb o e => by rw [e4]; exact kp b o e), hfp3, w0⟩
    obtain ⟨i, zs, os, H5, l5, I5, t5, fr5, w5⟩ := z
    show wpAny _ _ ((compTurn _ 0 (.ref it) _ _).onRaise _) _ _ s5
    refine wpAny_noted ?_
    rw [compTurn_list0]
    refine wpAny_bind (wpAny_standAt (wpAny_bind ?_))
    obtain ⟨hacc, stop | go⟩ := step i n zs H5 w5
    · obtain ⟨stop, q⟩ := stop
      refine thn (T.done (Cx.comp X (xs ++ ys) scope s3.heap.objs.size s3 H3 fp) rfl rfl rfl hc i [] s5 _ H5 _ I5 (fpC fr5) t5 stop) fun r s6 ⟨hr, I6⟩ => ?_
      subst hr
      refine wpAny_pure (hPQ _ _ s6 H5 ?_ q ?_ I6.free ?_ Lne cne fun p hp z => ?_)
      · refine I3.call' I6.os I6.base I6.hok I6.bare fun b hb => ?_
        obtain ⟨_, g1, _, g3, g4, g5⟩ := f2 b hb
        exact ⟨g3, g1, g4, g5⟩
      · obtain ⟨m, hn, _⟩ := I6.loc
        exact ⟨m, hn⟩
      · exact I3.sz
      · exact Nat.ne_of_lt (Heap.lt_size (I3.pin p hp).1) z
    · obtain ⟨go, turn⟩ := go
      refine thn (T.item (Cx.comp X (xs ++ ys) scope s3.heap.objs.size s3 H3 fp) rfl rfl rfl hc i [] s5 _ H5 _ I5 (fpC fr5) t5 go) fun r s6 ⟨u, hr, h6⟩ => ?_
      subst hr
      refine wpAny_bind (thn h6 fun _ s7 ⟨y, H7, I7, r7, y7, t7, fr7⟩ => ?_)
      have I7' := I7.pinned (fpC fr7) (T.obj _ _ t7)
      refine wpAny_bind (wpAny_mono (hg _ _ _ _ _ s7 _ H7 y u _ I7' r7 (hk y os _ H7 _ l5 (turn y _ y7 os l5))) (fun _ s8 z8 => ?_) fun _ _ f => f.elim)
      obtain ⟨σ8, H8, I8, ⟨os8, l8, e8⟩, q8⟩ := z8
      subst e8
      refine wpAny_bind (wpAny_bind (wpAny_mono (he _ _ _ _ _ s8 _ _ _ I8 q8) (fun u10 s10 z10 => ?_) fun _ _ f => f.elim))
      obtain ⟨v10, H10, I10, r10, a10, l10, m10, hm10, w10⟩ := z10
      refine wpAny_bind (wpAny_mono (mt_append (X := Cx.comp X (xs ++ ys) scope s3.heap.objs.size s3 H3 fp) _ s10 _ H10 (.ref s2.heap.objs.size) [v10] _ [u10] (fun _ H' => H' = upd H10 s2.heap.objs.size (.lst (zs ++ [v10]))) I10 rfl (.cons r10 .nil) ⟨_, zs, v10, rfl, rfl, a10, l10, rfl⟩) (fun _ s11 z11 => ?_) fun _ _ f => f.elim)
      obtain ⟨_, H11, I11, _, e11⟩ := z11
      subst e11
      refine wpAny_pure (wpAny_pure ⟨rfl, m10, hm10, i + 1, zs ++ [v10], os8, _, l8, I11.unpinned, T.keep _ _ _ t7 fun b hb o e => (I11.pin (b, o) (List.mem_append_right _ (List.mem_append_right _ (mem_pinsAt hb e)))).1, fun b hb => ?_, w10⟩)
      obtain ⟨o, e, _⟩ := T.obj _ _ t7 b hb
      exact (I11.pin (b, o) (List.mem_append_right _ (List.mem_append_right _ (mem_pinsAt hb e)))).2.1
  exact codeAny_compStart_list loop (T.self X.A 0 _ _ _ (T.keep _ _ _ t3 (fun b hb o e => by rw [e4]; exact kp b o e)) loop)
theorem pe_comp2 (S : CompScopeT X scope xs ys caps) (hc : X.calm = true) (hi : PI X tg iter wi) (hg : ∀ C s H fp, PG (Cx.comp X (xs ++ ys) scope C s H fp) tg gg) (hk : Keeps xs.length gg) (he : ∀ C s H fp, PE (Cx.comp X (xs ++ ys) scope C s H fp) elt te) (hs : ∀ x, foldedSetIterable iter X.env x = pure x := by intro _; rfl) :
    PE X (.ListComp elt [⟨tg, iter, [], 0⟩] scope pos) (tComp2 wi xs.length gg te caps) := by
  intro pins s σ H Q I h
  rw [eval_ListComp]
  refine wpAny_comprehension_free (use := none) rfl hs (closure_is (S.has I.ok)) S.kind S.names (thn (hi pins s σ H _ I h) fun v s1 h1 => thn h1 fun itv s2 h2 => ?_)
  obtain ⟨it, fp, tn, J, H2, rfl, I2, T, t0, f2, q⟩ := h2
  refine comp_run2 S hc hg hk he (Q := Q) I2 T t0 f2 q fun D C s' H' I' q' n' hC hz hL hcc hp => ?_
  obtain ⟨m, n'⟩ := n'
  exact ⟨m, n', fun h' sb => ⟨.ref D, H', I'.turned (it := C) (t' := s'.toks) (fun b o hb e => (sb.2 b hb).trans e) hC hL (.inr hz) hcc hp, rfl, q'⟩⟩
end
def comp2 (g : Dt → En → (En → Prop) → Prop) (te : DE) (ρ0 : En) (ok : Ms → Prop) : List Dt → List Dt → Ms → (List Dt → Ms → Prop) → Prop
  | [], acc, M, k => ok M ∧ k acc M
  | x :: xs, acc, M, k => ok M ∧ g x ρ0 fun ρ' => te ρ' M (fun d M2 => comp2 g te ρ0 ok xs (acc ++ [d]) M2 k) noX
def dComp2 (n : Nat) (ti : DK) (g : Dt → En → (En → Prop) → Prop) (te : DE) (caps : List Nat) : DE := fun ρ M q x => ti ρ M (fun xs ok M1 => xs.length ≤ sizeLine ∧ comp2 g te (List.replicate n none ++ capD caps ρ) ok xs [] M1 (fun ys M2 => q (.lst ys) M2)) x
theorem comp2_rd {K : PySem.W.Frag} {J : It} {gg : TG} {g : Dt → En → (En → Prop) → Prop} {te : DE} {caps : List Nat} {nn : Nat} {ρ : En} {σ : St} {G1 : Hp} {L1 : List Addr} {M1 : Ms} {H1 : Hp} {xs : List Dt} {ok : Ms → Prop} {Dl : Addr} {Q : VK} {k : List Dt → Ms → Prop} (gd : GD K gg g) (r1 : Rl K G1 L1 M1 H1) (n : EnD K G1 L1 ρ σ) (y : YlK K J xs ok G1 L1) (hD : H1 Dl = none) (hz : xs.length ≤ sizeLine)
    (h : comp2 g te (List.replicate nn none ++ capD caps ρ) ok xs [] M1 k)
    (fin : ∀ G2 L2 M2 H2 ds vs, Ex G1 L1 H1 G2 L2 H2 → Rl K G2 L2 M2 H2 → G2 Dl = none → Dl ∉ L2 → H2 Dl = some (.lst vs) → DenL K G2 L2 ds vs → k ds M2 → Q (.ref Dl) H2) :
    CompR2 J nn gg (lowE K (fun _ => E0) te) (capV caps σ) Q H1 Dl := by
  refine ⟨fun i m ys H2 => m + i = xs.length ∧ H2 Dl = some (.lst ys) ∧ ∃ acc G2 L2 M2, Ex G1 L1 H1 G2 L2 H2 ∧ Rl K G2 L2 M2 H2 ∧ G2 Dl = none ∧ Dl ∉ L2 ∧ DenL K G2 L2 acc ys ∧ acc.length ≤ i ∧ comp2 g te (List.replicate nn none ++ capD caps ρ) ok (xs.drop i) acc M2 k, ⟨xs.length, rfl, upd_same, [], G1, L1, M1, ?_⟩, ?_⟩
  · have gn : G1 Dl = none := r1.sub.free hD
    refine ⟨⟨.refl _, .refl _, fun _ h _ => h, fun b u h1 _ => by rw [upd_ne (fun z => by rw [z, hD] at h1; cases h1)]; exact h1, fun _ h => .inl h, fun b h => by rw [upd_ne (fun z => h (by rw [z]; exact hD))]; exact h⟩, ⟨fun b u e => by rw [upd_ne (fun z => by rw [z, gn] at e; cases e)]; exact r1.sub b u e, r1.len, r1.nd, fun i a m h1 h2 => ?_⟩, gn, r1.memN hD, rfl, Nat.le_refl _, by rw [List.drop_zero]; exact h⟩
    obtain ⟨q1, q2⟩ := r1.ats i a m h1 h2
    exact ⟨q1, q2.mono (.refl _) (.refl _) (upd_ne fun z => q2.there (by rw [z]; exact hD))⟩
  · rintro i m ys H2 ⟨hm, hacc, acc, G2, L2, M2, e2, r2, g2, l2, n2, la, h2⟩
    refine ⟨hacc, ?_⟩
    have ne1 : ∀ {b : Addr} {u : HO}, H1 b = some u → b ≠ Dl := fun e z => by rw [z, hD] at e; cases e
    by_cases hi : i < xs.length
    · right
      have hd : xs[i]? = some xs[i] := List.getElem?_eq_getElem hi
      rw [List.drop_eq_getElem_cons hi] at h2
      obtain ⟨hok, h2⟩ := h2
      obtain ⟨go, yl⟩ := y.go i G2 L2 M2 H2 _ e2.g e2.l r2 hok hd
      refine ⟨go, fun v H3 hy os hos => ?_⟩
      obtain ⟨G3, e3, r3, n3⟩ := yl v H3 hy
      have h3 : H3 Dl = some (.lst ys) := e3.out _ _ hacc l2
      have g3 : G3 Dl = none := e3.fr _ g2 (by rw [hacc]; simp)
      refine gd G3 L2 M2 H3 _ v _ _ _ _ r3 n3 (cap_enN ((n.mono e2).mono e3) caps hos) h2 fun ρ' σ' n' h' => ?_
      refine ⟨G3, L2, ρ', M2, _, noX, r3, n', h', xok_no, fun v5 H5 ⟨d5, G5, L5, M5, e5, r5, n5, h5⟩ => ?_⟩
      have h5' : H5 Dl = some (.lst ys) := e5.out _ _ h3 l2
      have g5 : G5 Dl = none := e5.fr _ g3 (by rw [h3]; simp)
      have l5 : Dl ∉ L5 := fun z => (e5.new _ z).elim l2 fun q => by rw [h3] at q; cases q
      have e35 := e3.trans e5
      have lenys : ys.length = acc.length := by rw [← n2.length]
      refine ⟨h5', by omega, m - 1, by omega, by omega, upd_same, acc ++ [d5], G5, L5, M5, ?_, ?_, g5, l5, (DenL.mono e35.g e35.l _ _ n2).app ⟨_, _, rfl, n5, rfl⟩, by rw [List.length_append]; show acc.length + 1 ≤ i + 1; omega, h5⟩
      · have e15 := e2.trans e35
        exact ⟨e15.g, e15.l, e15.fr, fun b u h1 h2 => by rw [upd_ne (ne1 h1)]; exact e15.out b u h1 h2, e15.new, fun b h => by
          by_cases hb : b = Dl
          · rw [hb, upd_same]; simp
          · rw [upd_ne hb]; exact e15.dom b h⟩
      · refine ⟨fun b u e => by rw [upd_ne (fun z => by rw [z, g5] at e; cases e)]; exact r5.sub b u e, r5.len, r5.nd, fun i a m h1 h2 => ?_⟩
        obtain ⟨q1, q2⟩ := r5.ats i a m h1 h2
        exact ⟨q1, q2.mono (.refl _) (.refl _) (upd_ne fun z => l5 (by rw [← z]; exact List.mem_of_getElem? h1))⟩
    · left
      rw [List.drop_eq_nil_of_le (by omega)] at h2
      exact ⟨y.stop i G2 L2 M2 H2 e2.g e2.l r2 h2.1 (by omega), fin G2 L2 M2 H2 acc ys e2 r2 g2 l2 hacc n2 h2.2⟩
section
variable {X : Cx} {R : St → XK} {elt iter : Expr} {x y : Str} {px py tp : Pos} {scope : Scope} {pos : Pos} {ti : DK} {te : DE} {ys : List Str} {caps : List Nat} {kk : Nat}
theorem j_comp2 (S : CompScopeT X scope [x, y] ys caps) (hi : JK X R (.Tuple [.Name x px, .Name y py] kk tp) iter ti) (he : ∀ C s H fp, JE (Cx.comp X (x :: y :: ys) scope C s H fp) (fun _ => E0) elt te) (hc : X.calm = true := by rfl) (hs : ∀ x, foldedSetIterable iter X.env x = pure x := by intro _; rfl) :
    JE X R (.ListComp elt [⟨.Tuple [.Name x px, .Name y py] kk tp, iter, [], 0⟩] scope pos) (dComp2 2 ti (g2 0 1) te caps) := .of (pe_comp2 (wi := lowK X.K R ti) (te := lowE X.K (fun _ => E0) te) S hc hi (pgc_two hc S) (keeps_two (Nat.zero_lt_succ 1) (Nat.lt_succ_self 1)) he hs) fun σ H G L ρ M q x rl n h hx => by
  refine ⟨G, L, ρ, M, _, x, rl, n, h, hx, fun J H1 ⟨xs, ok, G1, L1, M1, e1, r1, y, hz, h1⟩ D hD => ?_⟩
  exact comp2_rd gd_two r1 (n.mono e1) y hD hz h1 fun G2 L2 M2 H2 ds vs e2 r2 g2 l2 h2 n2 k => Fin.back e1 (own_val e2 r2 hD g2 l2 h2 n2 k)
end
theorem comp2_map {g : Dt → En → (En → Prop) → Prop} {te : DE} {ρ0 : En} {ok : Ms → Prop} {M : Ms} {k : List Dt → Ms → Prop} (ho : ok M) (f : Dt → Dt) : ∀ (xs acc : List Dt), (∀ x ∈ xs, ∀ q : DQ, q (f x) M → g x ρ0 fun ρ' => te ρ' M q noX) → k (acc ++ xs.map f) M → comp2 g te ρ0 ok xs acc M k
  | [], acc, _, h => ⟨ho, by simpa using h⟩
  | x :: xs, acc, ht, h => ⟨ho, ht x List.mem_cons_self _ (comp2_map ho f xs _ (fun y hy => ht y (List.mem_cons_of_mem _ hy)) (by simpa using h))⟩
/-! ### xs[a:b] of a list; [..] * k, which may change -/
theorem cutV_both (xs : List V) (a b : Nat) : cutV xs (some (a : Int)) (some (b : Int)) = (xs.drop a).take (b - a) := by
  unfold cutV
  rw [HT.sIx_nat, HT.sIx_nat]
  by_cases ha : a ≤ xs.length
  · rw [Nat.min_eq_left ha]
    by_cases hb : b ≤ xs.length
    · rw [Nat.min_eq_left hb]
    · rw [Nat.min_eq_right (by omega), List.take_of_length_le (by rw [List.length_drop]; omega), List.take_of_length_le (by rw [List.length_drop]; omega)]
  · have h1 : min a xs.length = xs.length := Nat.min_eq_right (by omega)
    rw [h1, List.drop_of_length_le (Nat.le_refl xs.length), List.drop_of_length_le (show xs.length ≤ a by omega)]
    simp
section
variable {X : Cx} {R : St → XK} {e l u a b : Expr} {te tl tu ta tb : DE} {pos p2 : Pos}
def dSlBL (te tl tu : DE) : DE := fun ρ M q x => te ρ M (fun d M1 => tl ρ M1 (fun di M2 => ∃ n : Nat, di = .int n ∧ tu ρ M2 (fun du M3 => ∃ ds m, lstQ M3 d = some ds ∧ du = .int (m : Nat) ∧ q (.loc M3.length) (M3 ++ [.lst ((ds.drop n).take (m - n))])) x) x) x
theorem j_slBothL (he : JE X R e te) (hl : JE X R l tl) (hu : JE X R u tu) : JE X R (.Subscript e (.Slice (some l) (some u) none p2) pos) (dSlBL te tl tu) :=
  .of (pe_slice sl_list he (po_some hl) (po_some hu)) fun σ H G L ρ M q x rl n h hx => by
    refine ⟨G, L, ρ, M, _, x, rl, n, h, hx, fun v H1 ⟨d1, G1, L1, M1, e1, r1, n1, h1⟩ => ?_⟩
    refine ⟨G1, L1, ρ, M1, _, x, r1, n.mono e1, h1, hx.on e1, fun v2 H2 ⟨d2, G2, L2, M2, e2, r2, n2, k, ek, h2⟩ => ?_⟩
    subst ek
    have n2 : v2 = .int k := n2
    subst n2
    refine ⟨k, rfl, G2, L2, ρ, M2, _, x, r2, (n.mono e1).mono e2, h2, (hx.on e1).on e2, fun v3 H3 ⟨d3, G3, L3, M3, e3, r3, n3, ds, m, ed, em, h3⟩ => ?_⟩
    subst em
    have e23 := e2.trans e3
    obtain ⟨a, vs, rfl, sq, dn⟩ := lstQ_is r3 (Den.mono e23.g e23.l _ _ n1) ed
    have n3 : v3 = .int m := n3
    subst n3
    refine ⟨m, rfl, a, vs, rfl, sq, fun p hp => ?_⟩
    rw [cutV_both]
    exact fin_loc (e1.trans e23) r3 hp (DenL.of (prd_take (m - k) (prd_drop k dn.pair))) h3
def fRepM : Dt → Dt → Ms → DQ → Prop := fun d e M q => ∃ xs k, lstR M d = some xs ∧ e = .int k ∧ -(2 ^ 63) ≤ k ∧ k < 2 ^ 63 ∧ xs.length * k.toNat ≤ sizeLine ∧ q (.loc M.length) (M ++ [.lst (List.replicate k.toNat xs).flatten])
theorem repMD {K : PySem.W.Frag} : OpD K rRep fRepM := by
  intro G0 L0 H0 G L M H v1 v2 d1 d2 q e r n1 n2 ⟨xs, k, h1, h2, a, b, hz, hq⟩
  obtain ⟨p1, w1, rfl, e1, m1⟩ := lstR_is r n1 h1
  subst h2
  have n2 : v2 = .int k := n2
  subst n2
  refine ⟨p1, k, w1, rfl, rfl, e1, a, b, by rw [← m1.length]; exact hz, fun p hp => ?_⟩
  exact fin_loc e r hp (DenL.of (prd_rep m1.pair k.toNat)) hq
theorem j_repM (ja : JE X R a ta) (jb : JE X R b tb) : JE X R (.BinOp a .Mult b pos) (dOp fRepM ta tb) := j_op op_rep repMD ja jb
end
end L2

set_option Elab.async false
set_option linter.all false
set_option maxRecDepth 100000
set_option maxHeartbeats 4000000
namespace L2
open PySem PySem.Spec PyProof.Rows
/-! ### xs.insert(i, y), the place within the list or behind its last -/
section
variable {X : Cx}
theorem ins_eq (l : List Value) (k : Nat) (y : Value) : (l.toArray.extract 0 k).push y ++ l.toArray.extract k = (l.take k ++ y :: l.drop k).toArray := by
  apply Array.toList_inj.mp
  simp
  exact List.take_of_length_le (by simp)
def rInsert : V → List V → Hp → VK → Prop := fun x vs H Q => ∃ l xs y, ∃ i : Nat, x = .ref l ∧ vs = [.int (i : Int), y] ∧ H l = some (.lst xs) ∧ xs.length < sizeLine ∧ i ≤ xs.length ∧ Q .non (upd H l (.lst (xs.take i ++ y :: xs.drop i)))
theorem mt_insert : MtM X "list.insert" rInsert := by
  intro pins s σ H x vs v us Q I rx rv h
  obtain ⟨l, xs, y, i, rfl, rfl, hH, hz, hi, q⟩ := h
  cases rx
  obtain ⟨u1, u, rfl, ru1, ru⟩ := rv.two
  obtain ⟨tk, rfl⟩ := ru1
  obtain ⟨z, its, n, r, hl, e⟩ := I.lstM hH
  have h63 : sizeLine < 2 ^ 63 := by decide
  have hi63 : i < 2 ^ 63 := Nat.lt_of_le_of_lt hi (Nat.lt_trans hz h63)
  have hf : ¬(!Builtin.List.listFitsIndex (i : Int)) = true := by
    have : Builtin.List.listFitsIndex (i : Int) = true := by
      clear h63 hz hi q
      have a1 : -(2 ^ 63 : Int) ≤ (i : Int) := by omega
      have a2 : (i : Int) < 2 ^ 63 := by omega
      unfold Builtin.List.listFitsIndex
      rw [decide_eq_true a1, decide_eq_true a2]; rfl
    rw [this]; decide
  have hlen := r.length
  have hsz : its.toArray.size ≤ sizeLine := by rw [List.size_toArray, ← hlen]; exact Nat.le_of_lt hz
  obtain ⟨j, hj⟩ : ∃ j : Int, j = (i : Int) := ⟨_, rfl⟩
  rw [← hj] at hf ⊢
  have hM := PySem.AutoSeq1.list_insert_list_int_val_1 l its.toArray n j tk u hf hsz
  refine call_meets F.slot_list_insert ⟨_, e, rfl⟩ F.entry_list_insert (F.args_list_insert_3 _ _ _) hM ⟨e, ?_⟩
  refine ⟨.non, _, I.lset (its' := its.take i ++ u :: its.drop i) hH e ?_ ((r.take i).append (.cons ru (r.drop i))) ?_, rfl, q⟩
  · show (its.toArray.extract 0 (if j < 0 then (j + (its.toArray.size : Int)).toNat else min j.toNat its.toArray.size)).push u ++ its.toArray.extract (if j < 0 then (j + (its.toArray.size : Int)).toNat else min j.toNat its.toArray.size) = _
    have e2 : (if j < 0 then (j + (its.toArray.size : Int)).toNat else min j.toNat its.toArray.size) = i := by
      rw [if_neg (by omega), List.size_toArray, hj, Int.toNat_natCast]; omega
    rw [e2]
    exact ins_eq its i u
  · rw [List.length_append, List.length_cons, List.length_take, List.length_drop, Nat.min_eq_left hi, show i + (xs.length - i + 1) = xs.length + 1 by omega]
    exact hz
end
theorem DenL.tak {K : PySem.W.Frag} {G : Hp} {L : List Addr} : ∀ {ds : List Dt} {vs : List V} (n : Nat), DenL K G L ds vs → DenL K G L (ds.take n) (vs.take n)
  | _, _, 0, _ => rfl
  | [], _, n + 1, h => by cases h; rfl
  | _ :: _, _, n + 1, ⟨v, vs, e, h1, h2⟩ => by subst e; exact ⟨v, vs.take n, rfl, h1, DenL.tak n h2⟩
theorem DenL.dro {K : PySem.W.Frag} {G : Hp} {L : List Addr} : ∀ {ds : List Dt} {vs : List V} (n : Nat), DenL K G L ds vs → DenL K G L (ds.drop n) (vs.drop n)
  | _, _, 0, h => h
  | [], _, n + 1, h => by cases h; rfl
  | _ :: _, _, n + 1, ⟨v, vs, e, h1, h2⟩ => by subst e; exact DenL.dro n h2
section
variable {X : Cx} {R : St → XK} {e f o : Expr} {t : DA} {to : DE} {apos cpos : Pos}
def dIns (to : DE) (t : DA) : DE := fun ρ M q x => to ρ M (fun d M1 => (∃ k xs, d = .loc k ∧ M1[k]? = some (.lst xs)) ∧ t ρ M1 (fun ds M2 => ∃ k xs y, ∃ i : Nat, d = .loc k ∧ ds = [.int (i : Int), y] ∧ M2[k]? = some (.lst xs) ∧ xs.length < sizeLine ∧ i ≤ xs.length ∧ q .non (M2.set k (.lst (xs.take i ++ y :: xs.drop i)))) x) x
theorem j_insert (ho : JE X R o to) (ha : JA X R [e, f] t) (hbase : attributeBase o "insert" X.env (eval o X.env) = eval o X.env := by rfl)
    (hfew : ((backTo cpos (starEach [e, f] X.env)).all (fun x => !x.1) && (backToKw cpos (keywordEach [] X.env)).all (fun x => x.1.isSome)
      && decide (([e, f] : List Expr).length + ([] : List Keyword).length + (if ([] : List Keyword).isEmpty then 0 else 1) < 30)) = true := by rfl)
    (hline : (apos.endLine == cpos.line) = true := by rfl) (hs : starEach [e, f] X.env = (false, eval e X.env) :: starEach [f] X.env := by rfl) (hplain : (backTo cpos (starEach [f] X.env)).any (·.1) = false := by rfl) :
    JE X R (.Call (.Attribute o "insert" apos) [e, f] [] cpos) (dIns to t) :=
  .of (pe_bm PySem.F.plainAttrs_list PySem.F.slot_list_insert PySem.F.type_list_insert (r := rInsert) mt_insert ho ha hbase hfew hline hs hplain) fun σ H G L ρ M q x rl n h hx => by
    refine ⟨G, L, ρ, M, _, x, rl, n, h, hx, fun v H1 ⟨d1, G1, L1, M1, e1, r1, n1, ⟨k, xs, ed, hm⟩, h1⟩ => ?_⟩
    subst ed
    obtain ⟨a, rfl, hk⟩ := n1
    obtain ⟨_, vs, hH, _⟩ := r1.ats k a _ hk hm
    refine ⟨.inl ⟨rfl, vs, .of hH⟩, G1, L1, ρ, M1, _, x, r1, n.mono e1, h1, hx.on e1, fun us H2 ⟨ds, G2, L2, M2, e2, r2, n2, k', xs', y, i, ek, ed, hm2, hz, hi, h2⟩ => ?_⟩
    cases ek
    subst ed
    obtain ⟨u1, u, rfl, n3, n4⟩ := denL_two n2
    have n3 : u1 = .int (i : Int) := n3
    subst n3
    have hk2 := e2.l.get hk
    obtain ⟨_, vs2, hH2, dn2⟩ := r2.ats k a _ hk2 hm2
    refine ⟨a, vs2, u, i, rfl, rfl, hH2, by rw [← dn2.length]; exact hz, by rw [← dn2.length]; exact hi, .non, G2, L2, _, (e1.trans e2).trans (r2.exS hk2), r2.setM (m := .lst (xs'.take i ++ y :: xs'.drop i)) hk2 ⟨_, upd_same, (dn2.tak i).app ⟨_, _, rfl, n4, dn2.dro i⟩⟩, rfl, h2⟩
end
end L2

set_option Elab.async false
set_option linter.all false
set_option maxRecDepth 100000
set_option maxHeartbeats 4000000
/-! mathematics of fractions -/
namespace Fr0
/-- the gcd as an Int -/
def g (a b : Int) : Int := (Int.gcd a b : Nat)
theorem g_pos {a b : Int} (h : b ≠ 0) : 0 < g a b := by
  have := Int.gcd_pos_of_ne_zero_right a h
  unfold g; omega
theorem g_zero {a : Int} (h : 0 ≤ a) : g a 0 = a := by
  unfold g; rw [Int.gcd_zero_right]; omega
theorem g_step {a b : Int} (hb : 0 < b) : g b (a.fmod b) = g a b := by
  unfold g
  rw [Int.fmod_eq_emod_of_nonneg a (Int.le_of_lt hb), Int.gcd_comm a b]
  congr 1
  refine Int.gcd_right_eq_iff.mpr fun c hc => ?_
  rw [Int.emod_def]
  constructor
  · intro h
    have := Int.dvd_add h (Int.dvd_mul_of_dvd_left (c := a / b) hc)
    rwa [Int.sub_add_cancel] at this
  · intro h
    exact Int.dvd_sub h (Int.dvd_mul_of_dvd_left (c := a / b) hc)
theorem g_abs (a b : Int) : g (if a < 0 then -a else a) (if b < 0 then -b else b) = g a b := by
  unfold g
  split <;> split <;> simp
def dv (t b : Int) : Int := if b < 0 then -(g t b) else g t b
def frac (t b : Int) : Int × Int := (t.fdiv (dv t b), b.fdiv (dv t b))
theorem dv_ne {t b : Int} (h : b ≠ 0) : dv t b ≠ 0 := by
  have := g_pos (a := t) h
  unfold dv; split <;> omega
theorem fdiv_mul {k p : Int} (h : k ≠ 0) : (k * p).fdiv k = p := by
  rw [Int.mul_comm]; exact Int.mul_fdiv_cancel p h
theorem dv_parts {t b : Int} (h : b ≠ 0) : ∃ p q : Int, t = dv t b * p ∧ b = dv t b * q ∧ 0 < q ∧ Int.gcd p q = 1 := by
  have hg := g_pos (a := t) h
  have h0 : 0 < Int.gcd t b := Int.gcd_pos_of_ne_zero_right t h
  obtain ⟨p, hp⟩ := Int.gcd_dvd_left t b
  obtain ⟨q, hq⟩ := Int.gcd_dvd_right t b
  have hc : Int.gcd p q = 1 := by
    have e := Int.gcd_ediv_gcd_ediv_gcd h0
    have n0 : (Int.gcd t b : Int) ≠ 0 := by omega
    have e1 : t / (Int.gcd t b : Int) = p := by
      conv => lhs; arg 1; rw [hp]
      exact Int.mul_ediv_cancel_left p n0
    have e2 : b / (Int.gcd t b : Int) = q := by
      conv => lhs; arg 1; rw [hq]
      exact Int.mul_ediv_cancel_left q n0
    rwa [e1, e2] at e
  have hp' : t = g t b * p := hp
  have hq' : b = g t b * q := hq
  by_cases hb : b < 0
  · have hd : dv t b = -(g t b) := by unfold dv; rw [if_pos hb]
    refine ⟨-p, -q, ?_, ?_, ?_, ?_⟩
    · rw [hd, Int.neg_mul_neg]; exact hp'
    · rw [hd, Int.neg_mul_neg]; exact hq'
    · have : g t b * q < 0 := by rw [← hq']; exact hb
      by_cases q0 : 0 ≤ q
      · exact absurd (Int.mul_nonneg (Int.le_of_lt hg) q0) (by omega)
      · omega
    · simpa using hc
  · have hd : dv t b = g t b := by unfold dv; rw [if_neg hb]
    refine ⟨p, q, by rw [hd]; exact hp', by rw [hd]; exact hq', ?_, hc⟩
    have : 0 < g t b * q := by rw [← hq']; omega
    exact Int.pos_of_mul_pos_right this hg
theorem frac_spec {t b : Int} (h : b ≠ 0) : ∃ p q : Int, frac t b = (p, q) ∧ 0 < q ∧ Int.gcd p q = 1 ∧ t = dv t b * p ∧ b = dv t b * q := by
  obtain ⟨p, q, hp, hq, h0, hc⟩ := dv_parts (t := t) h
  have n0 := dv_ne (t := t) h
  refine ⟨p, q, ?_, h0, hc, hp, hq⟩
  unfold frac
  have e1 : t.fdiv (dv t b) = p := by conv => lhs; arg 1; rw [hp]
                                      exact fdiv_mul n0
  have e2 : b.fdiv (dv t b) = q := by conv => lhs; arg 1; rw [hq]
                                      exact fdiv_mul n0
  rw [e1, e2]
/-- the cross product -/
theorem frac_cross {t b : Int} (h : b ≠ 0) : t * (frac t b).2 = b * (frac t b).1 := by
  obtain ⟨p, q, e, _, _, hp, hq⟩ := frac_spec (t := t) h
  rw [e]
  show t * q = b * p
  calc t * q = dv t b * p * q := by rw [← hp]
    _ = dv t b * q * p := by rw [Int.mul_assoc, Int.mul_comm p q, ← Int.mul_assoc]
    _ = b * p := by rw [← hq]
theorem frac_pos {t b : Int} (h : b ≠ 0) : 0 < (frac t b).2 := by
  obtain ⟨p, q, e, h0, _⟩ := frac_spec (t := t) h
  rw [e]; exact h0
theorem frac_low {t b : Int} (h : b ≠ 0) : Int.gcd (frac t b).1 (frac t b).2 = 1 := by
  obtain ⟨p, q, e, _, hc, _⟩ := frac_spec (t := t) h
  rw [e]; exact hc
theorem dvd_coprime {k m n : Int} (h : k ∣ m * n) (hc : Int.gcd k m = 1) : k ∣ n := by
  have := (Int.dvd_gcd_mul_iff_dvd_mul (k := k) (n := m) (m := n)).mpr h
  rw [hc] at this
  simpa using this
/-- there is one alone -/
theorem low_unique {p q p' q' : Int} (hq : 0 < q) (hq' : 0 < q') (h : Int.gcd p q = 1) (h' : Int.gcd p' q' = 1) (e : p * q' = p' * q) : p = p' ∧ q = q' := by
  have d1 : q ∣ q' := by
    have : q ∣ p * q' := ⟨p', by rw [e, Int.mul_comm]⟩
    exact dvd_coprime this (by rw [Int.gcd_comm]; exact h)
  have d2 : q' ∣ q := by
    have : q' ∣ p' * q := ⟨p, by rw [← e, Int.mul_comm]⟩
    exact dvd_coprime this (by rw [Int.gcd_comm]; exact h')
  have eq : q = q' := Int.le_antisymm (Int.le_of_dvd hq' d1) (Int.le_of_dvd hq d2)
  subst eq
  exact ⟨Int.eq_of_mul_eq_mul_right (by omega) e, rfl⟩
theorem frac_of {t b p q : Int} (h : b ≠ 0) (hq : 0 < q) (hc : Int.gcd p q = 1) (e : t * q = b * p) : frac t b = (p, q) := by
  have h1 := frac_cross (t := t) h
  have h2 := frac_pos (t := t) h
  have h3 := frac_low (t := t) h
  have h4 : (frac t b).1 * q = p * (frac t b).2 := by
    have : b * ((frac t b).1 * q) = b * (p * (frac t b).2) := by
      rw [← Int.mul_assoc, ← h1, Int.mul_right_comm, e, Int.mul_assoc]
    exact Int.eq_of_mul_eq_mul_left h this
  have := low_unique h2 hq h3 hc h4
  exact Prod.ext this.1 this.2
end Fr0
namespace Fr0
theorem dv_natAbs_le {t b : Int} (h : b ≠ 0) : (dv t b).natAbs ≤ b.natAbs := by
  have e : (dv t b).natAbs = Int.gcd t b := by unfold dv g; split <;> omega
  rw [e]
  exact Int.gcd_le_natAbs_right t h
theorem frac_le1 {t b : Int} (h : b ≠ 0) : (frac t b).1.natAbs ≤ t.natAbs := by
  obtain ⟨p, q, e, _, _, hp, _⟩ := frac_spec (t := t) h
  have n0 := dv_ne (t := t) h
  rw [e]
  show p.natAbs ≤ t.natAbs
  have : t.natAbs = (dv t b).natAbs * p.natAbs := by conv => lhs; rw [hp]
                                                     exact Int.natAbs_mul _ _
  rw [this]
  exact Nat.le_mul_of_pos_left _ (by omega)
theorem frac_le2 {t b : Int} (h : b ≠ 0) : (frac t b).2.natAbs ≤ b.natAbs := by
  obtain ⟨p, q, e, _, _, _, hq⟩ := frac_spec (t := t) h
  have n0 := dv_ne (t := t) h
  rw [e]
  show q.natAbs ≤ b.natAbs
  have : b.natAbs = (dv t b).natAbs * q.natAbs := by conv => lhs; rw [hq]
                                                     exact Int.natAbs_mul _ _
  rw [this]
  exact Nat.le_mul_of_pos_left _ (by omega)
/-- by a bottom above 0 -/
theorem frac_up {t b : Int} (h : 0 < b) : frac t b = (t.fdiv (g t b), b.fdiv (g t b)) := by
  unfold frac dv
  rw [if_neg (by omega)]
end Fr0
/-! mathematics of texts -/
namespace Tx
open PySem PySem.NumText
def dig (n : Nat) : List Nat := (Nat.toDigits 10 n).map Char.toNat
/-- a number as it is written -/
def sg (i : Int) : List Nat := if i < 0 then [45] else []
def mk (cs : List Nat) : Str := ⟨cs.toArray⟩
/-! split by one sign -/
/-! figures -/
def OkF (cs : List Nat) : Prop := cs ≠ [] ∧ cs.length ≤ 60 ∧ AllDigits cs ∧ (cs.head? = some 48 → cs = [48])
instance (cs : List Nat) : Decidable (AllDigits cs) := by unfold AllDigits; infer_instance
instance (cs : List Nat) : Decidable (OkF cs) := by unfold OkF; infer_instance
def figs (cs : List Nat) : Option Nat := if OkF cs then some (digitsVal cs) else none
def tops (cs : List Nat) : Option Int := match cs with
  | 45 :: r => (match figs r with
    | some n => if n = 0 then none else some (-(n : Int))
    | none => none)
  | _ => (match figs cs with
    | some n => some (n : Int)
    | none => none)
/-- a fraction as it is written -/
def wr (p b : Int) : List Nat := sg p ++ dig p.natAbs ++ (if b = 1 then [] else 47 :: dig b.natAbs)
def rd (z : Str) : Option (Int × Int) := match Txt.split z ⟨#[47]⟩ with
  | [a] => (match tops a.cps.toList with
    | some t => some (Fr0.frac t 1)
    | none => none)
  | [a, b] => (match tops a.cps.toList with
    | some t => (match figs b.cps.toList with
      | some n => if n < 2 then none else if (Fr0.frac t n).2 = n then some (Fr0.frac t n) else none
      | none => none)
    | none => none)
  | _ => none
/-! signs in a text -/
end Tx

set_option Elab.async false
set_option linter.all false
set_option maxRecDepth 100000
set_option maxHeartbeats 4000000
/-! a text with strokes -/
namespace Tx
open PySem PySem.NumText
/-- what is read: the head, and what stands behind the first stroke -/
def rdH (a : List Nat) (ob : Option (List Nat)) : Option (Int × Int) := match tops a with
  | none => none
  | some t => (match ob with
    | none => some (t, 1)
    | some b => (match figs b with
      | none => none
      | some n => if n < 2 then none else if Fr0.g t n = 1 then some (t, (n : Int)) else none))
/-- the head without its - -/
def pl (hd : List Nat) : List Nat := match hd with
  | 45 :: r => r
  | _ => hd
end Tx

set_option linter.all false
namespace Bz
abbrev Row := Nat → Int
abbrev Fn := List Nat → Int
/-- the first-row expansion: x at a column, F of the others, the signs in turn -/
def Lx (x : Row) : Fn → Fn
  | _, [] => 0
  | F, c :: cs => x c * F cs - Lx x (fun t => F (c :: t)) cs
theorem Lx_add (x : Row) : ∀ (cs : List Nat) (F G : Fn), Lx x (fun t => F t + G t) cs = Lx x F cs + Lx x G cs
  | [], F, G => by simp [Lx]
  | c :: cs, F, G => by
    have := Lx_add x cs (fun t => F (c :: t)) (fun t => G (c :: t))
    simp only [Lx]
    rw [this]; grind
theorem Lx_mul (x : Row) (k : Int) : ∀ (cs : List Nat) (F : Fn), Lx x (fun t => k * F t) cs = k * Lx x F cs
  | [], F => by simp [Lx]
  | c :: cs, F => by
    have := Lx_mul x k cs (fun t => F (c :: t))
    simp only [Lx]
    rw [this]; grind
theorem Lx_sub (x : Row) (cs : List Nat) (F G : Fn) : Lx x (fun t => F t - G t) cs = Lx x F cs - Lx x G cs := by
  have h1 := Lx_add x cs F (fun t => (-1) * G t)
  have h2 := Lx_mul x (-1) cs G
  have e : (fun t => F t - G t) = fun t => F t + (-1) * G t := by funext t; grind
  rw [e, h1, h2]; grind
theorem Lx_zero (x : Row) : ∀ (cs : List Nat), Lx x (fun _ => 0) cs = 0
  | [] => rfl
  | c :: cs => by simp only [Lx]; rw [Lx_zero x cs]; simp
/-- two rows change about: the sign changes -/
theorem Lx_anti (x y : Row) : ∀ (cs : List Nat) (F : Fn), Lx x (Lx y F) cs = - Lx y (Lx x F) cs
  | [], F => rfl
  | c :: cs, F => by
    have ih := Lx_anti x y cs (fun t => F (c :: t))
    have e1 : (fun t => Lx y F (c :: t)) = fun t => y c * F t - Lx y (fun u => F (c :: u)) t := rfl
    have e2 : (fun t => Lx x F (c :: t)) = fun t => x c * F t - Lx x (fun u => F (c :: u)) t := rfl
    show x c * Lx y F cs - Lx x (fun t => Lx y F (c :: t)) cs = -(y c * Lx x F cs - Lx y (fun t => Lx x F (c :: t)) cs)
    rw [e1, e2, Lx_sub, Lx_sub, Lx_mul, Lx_mul, ih]
    grind
theorem Lx_self (x : Row) (cs : List Nat) (F : Fn) : Lx x (Lx x F) cs = 0 := by
  have := Lx_anti x x cs F
  omega
/-- with one column more, behind -/
theorem Lx_snoc (x : Row) (d : Nat) : ∀ (cs : List Nat) (F : Fn), Lx x F (cs ++ [d]) = Lx x (fun t => F (t ++ [d])) cs + (-1) ^ cs.length * (x d * F cs)
  | [], F => by simp [Lx]
  | c :: cs, F => by
    have := Lx_snoc x d cs (fun t => F (c :: t))
    show x c * F (cs ++ [d]) - Lx x (fun t => F (c :: t)) (cs ++ [d]) = _
    rw [this]
    show _ = (x c * F (cs ++ [d]) - Lx x (fun t => F (c :: (t ++ [d]))) cs) + (-1) ^ (cs.length + 1) * (x d * F (c :: cs))
    have e : (fun t => F (c :: (t ++ [d]))) = fun t => (fun u => F (c :: u)) (t ++ [d]) := rfl
    rw [e, Int.pow_succ]
    grind
theorem Lx_congr (x : Row) {F G : Fn} {n : Nat} : ∀ (cs : List Nat), (∀ t, t.length + 1 = cs.length → F t = G t) → Lx x F cs = Lx x G cs := by
  intro cs
  induction cs generalizing F G with
  | nil => intro _; rfl
  | cons c cs ih =>
    intro h
    simp only [Lx]
    rw [h cs (by simp), ih (F := fun t => F (c :: t)) (G := fun t => G (c :: t)) fun t ht => h (c :: t) (by simp; omega)]
/-- sum over the columns, each with the others left: the same as a sum by places -/
def ssum (f : Nat → Int) : Nat → Int
  | 0 => 0
  | n + 1 => ssum f n + f n
theorem ssum_add (f g : Nat → Int) : ∀ n, ssum (fun i => f i + g i) n = ssum f n + ssum g n
  | 0 => rfl
  | n + 1 => by simp only [ssum]; rw [ssum_add f g n]; omega
theorem ssum_mul (k : Int) (f : Nat → Int) : ∀ n, ssum (fun i => k * f i) n = k * ssum f n
  | 0 => by simp [ssum]
  | n + 1 => by simp only [ssum]; rw [ssum_mul k f n, Int.mul_add]
theorem ssum_congr {f g : Nat → Int} : ∀ {n : Nat}, (∀ i, i < n → f i = g i) → ssum f n = ssum g n
  | 0, _ => rfl
  | n + 1, h => by simp only [ssum]; rw [ssum_congr fun i hi => h i (by omega), h n (by omega)]
theorem ssum_zero {f : Nat → Int} {n : Nat} (h : ∀ i, i < n → f i = 0) : ssum f n = 0 := by
  rw [ssum_congr h]
  clear h
  induction n with
  | zero => rfl
  | succ n ih => simp only [ssum]; rw [ih]; rfl
theorem ssum_one {f : Nat → Int} {n j : Nat} (hj : j < n) (h : ∀ i, i < n → i ≠ j → f i = 0) : ssum f n = f j := by
  induction n with
  | zero => omega
  | succ n ih =>
    simp only [ssum]
    by_cases e : j = n
    · subst e
      rw [ssum_zero fun i hi => h i (by omega) (by omega)]; omega
    · rw [ih (by omega) fun i hi hne => h i (by omega) hne, h n (by omega) (by omega)]; omega
theorem ssum_first (f : Nat → Int) : ∀ n, ssum f (n + 1) = f 0 + ssum (fun i => f (i + 1)) n
  | 0 => by simp [ssum]
  | n + 1 => by
    have := ssum_first f n
    rw [show ssum f (n + 1 + 1) = ssum f (n + 1) + f (n + 1) from rfl, this]
    simp only [ssum]; omega
theorem ssum_swap (f : Nat → Nat → Int) (m : Nat) : ∀ n, ssum (fun i => ssum (f i) m) n = ssum (fun j => ssum (fun i => f i j) n) m
  | 0 => by
    rw [show ssum (fun i => ssum (f i) m) 0 = 0 from rfl]
    exact (ssum_zero fun _ _ => rfl).symm
  | n + 1 => by
    rw [show ssum (fun i => ssum (f i) m) (n + 1) = ssum (fun i => ssum (f i) m) n + ssum (f n) m from rfl, ssum_swap f m n, ← ssum_add]
    rfl
theorem Lx_sum (x : Row) : ∀ (cs : List Nat) (F : Fn), Lx x F cs = ssum (fun p => (-1) ^ p * (x (cs.getD p 0) * F (cs.eraseIdx p))) cs.length
  | [], F => rfl
  | c :: cs, F => by
    have ih := Lx_sum x cs (fun t => F (c :: t))
    show x c * F cs - Lx x (fun t => F (c :: t)) cs = _
    rw [List.length_cons, ssum_first, ih]
    have e : ssum (fun p => (-1) ^ (p + 1) * (x ((c :: cs).getD (p + 1) 0) * F ((c :: cs).eraseIdx (p + 1)))) cs.length = -1 * ssum (fun p => (-1) ^ p * (x (cs.getD p 0) * F (c :: cs.eraseIdx p))) cs.length := by
      rw [← ssum_mul]
      refine ssum_congr fun p _ => ?_
      simp only [List.getD_cons_succ, List.eraseIdx_cons_succ]
      rw [Int.pow_succ]; grind
    rw [e]
    simp only [List.getD_cons_zero, List.eraseIdx_cons_zero, Int.pow_zero]
    omega
/-- the determinant of rows by columns -/
def F0 : Fn := fun cs => if cs = [] then 1 else 0
def D : List Row → Fn
  | [] => F0
  | x :: xs => Lx x (D xs)
/-- a row comes to the front -/
theorem D_front (y : Row) : ∀ (xs ys : List Row) (cs : List Nat), D (xs ++ y :: ys) cs = (-1) ^ xs.length * D (y :: (xs ++ ys)) cs
  | [], ys, cs => by simp
  | x :: xs, ys, cs => by
    show Lx x (D (xs ++ y :: ys)) cs = _
    have e : D (xs ++ y :: ys) = fun t => (-1) ^ xs.length * D (y :: (xs ++ ys)) t := by funext t; exact D_front y xs ys t
    rw [e, Lx_mul]
    show (-1) ^ xs.length * Lx x (Lx y (D (xs ++ ys))) cs = (-1) ^ (xs.length + 1) * Lx y (Lx x (D (xs ++ ys))) cs
    rw [Lx_anti x y, Int.pow_succ]; grind
/-- two equal rows: 0 -/
theorem D_two (y : Row) (xs ys zs : List Row) (cs : List Nat) : D (xs ++ y :: (ys ++ y :: zs)) cs = 0 := by
  rw [D_front]
  have e : D (y :: (xs ++ (ys ++ y :: zs))) cs = Lx y (fun t => D (xs ++ (ys ++ y :: zs)) t) cs := rfl
  have e2 : (fun t => D (xs ++ (ys ++ y :: zs)) t) = fun t => (-1) ^ (xs ++ ys).length * Lx y (D (xs ++ ys ++ zs)) t := by
    funext t
    rw [← List.append_assoc, D_front]; rfl
  rw [e, e2, Lx_mul, Lx_self]; simp
end Bz
namespace Bz
/-! ### the adjugate -/
def adj (rows : List Row) (cols : List Nat) (p k : Nat) : Int := (-1) ^ (p + k) * D (rows.eraseIdx k) (cols.eraseIdx p)
def zr : Row := fun _ => 0
theorem neg_sq (n : Nat) : ((-1 : Int) ^ n) * (-1) ^ n = 1 := by
  induction n with
  | zero => rfl
  | succ n ih => rw [Int.pow_succ]; grind
theorem split_at {α : Type} : ∀ {l : List α} {k : Nat} (h : k < l.length), l = l.take k ++ l[k] :: l.drop (k + 1) := by
  intro l k h
  rw [List.getElem_cons_drop, List.take_append_drop]
theorem mem_erase {α : Type} {l : List α} {i k : Nat} (hi : i < l.length) (hne : i ≠ k) : l[i] ∈ l.eraseIdx k := by
  rw [List.mem_eraseIdx_iff_getElem]
  exact ⟨i, hi, hne, rfl⟩
theorem PA {rows : List Row} {cols : List Nat} {i k : Nat} (hl : cols.length = rows.length) (hi : i < rows.length) (hk : k < rows.length) : ssum (fun p => rows.getD i zr (cols.getD p 0) * adj rows cols p k) rows.length = if i = k then D rows cols else 0 := by
  have gi : rows.getD i zr = rows[i] := by rw [List.getD_eq_getElem?_getD, List.getElem?_eq_getElem hi]; rfl
  have e : ssum (fun p => rows.getD i zr (cols.getD p 0) * adj rows cols p k) rows.length = (-1) ^ k * D (rows.getD i zr :: rows.eraseIdx k) cols := by
    show _ = (-1) ^ k * Lx (rows.getD i zr) (D (rows.eraseIdx k)) cols
    rw [Lx_sum, ← ssum_mul, hl]
    refine ssum_congr fun p _ => ?_
    unfold adj
    rw [Int.pow_add]; grind
  rw [e, gi]
  by_cases h : i = k
  · subst h
    rw [if_pos rfl]
    have s := split_at hi
    have f := D_front rows[i] (rows.take i) (rows.drop (i + 1)) cols
    rw [← s, List.length_take, Nat.min_eq_left (by omega)] at f
    rw [f, List.eraseIdx_eq_take_drop_succ]
  · rw [if_neg h]
    obtain ⟨ys, zs, e2⟩ := List.append_of_mem (mem_erase hi h)
    rw [e2]
    have := D_two rows[i] [] ys zs cols
    rw [show D (rows[i] :: (ys ++ rows[i] :: zs)) cols = 0 from this]; simp
/-! ### one column more -/
theorem Lx_ssum (x : Row) (g : Nat → Int) (F : Nat → Fn) (cs : List Nat) : ∀ n, Lx x (fun t => ssum (fun k => g k * F k t) n) cs = ssum (fun k => g k * Lx x (F k) cs) n
  | 0 => Lx_zero x cs
  | n + 1 => by
    have := Lx_add x cs (fun t => ssum (fun k => g k * F k t) n) (fun t => g n * F n t)
    show Lx x (fun t => ssum (fun k => g k * F k t) n + g n * F n t) cs = _
    rw [this, Lx_ssum x g F cs n, Lx_mul]; rfl
theorem D_col (c : Nat) : ∀ (rows : List Row) (t : List Nat), D rows (t ++ [c]) = ssum (fun k => (-1) ^ (t.length + k) * (rows.getD k zr c * D (rows.eraseIdx k) t)) rows.length
  | [], t => by
    show F0 (t ++ [c]) = 0
    unfold F0; simp
  | x :: xs, t => by
    show Lx x (D xs) (t ++ [c]) = _
    rw [Lx_snoc, List.length_cons, ssum_first]
    have e : Lx x (fun u => D xs (u ++ [c])) t = ssum (fun k => (-1) ^ (t.length + (k + 1)) * ((x :: xs).getD (k + 1) zr c * D ((x :: xs).eraseIdx (k + 1)) t)) xs.length := by
      have e1 : Lx x (fun u => D xs (u ++ [c])) t = Lx x (fun u => ssum (fun k => ((-1) ^ (t.length + (k + 1)) * xs.getD k zr c) * D (xs.eraseIdx k) u) xs.length) t := by
        refine Lx_congr x (n := 0) t fun u hu => ?_
        rw [D_col c xs u]
        refine ssum_congr fun k _ => ?_
        rw [← hu, show u.length + 1 + (k + 1) = u.length + k + 1 + 1 by omega, Int.pow_succ, Int.pow_succ]; grind
      rw [e1, Lx_ssum x (fun k => (-1) ^ (t.length + (k + 1)) * xs.getD k zr c) (fun k => D (xs.eraseIdx k))]
      refine ssum_congr fun k _ => ?_
      simp only [List.getD_cons_succ, List.eraseIdx_cons_succ]
      show _ = (-1) ^ (t.length + (k + 1)) * (xs.getD k zr c * Lx x (D (xs.eraseIdx k)) t)
      grind
    rw [e]
    simp only [List.getD_cons_zero, List.eraseIdx_cons_zero, Nat.add_zero]
    omega
/-- one row and one column more -/
theorem D_border {rows : List Row} {cols : List Nat} {y : Row} {c : Nat} (hl : cols.length = rows.length) : D (rows ++ [y]) (cols ++ [c]) = y c * D rows cols - ssum (fun p => y (cols.getD p 0) * ssum (fun k => adj rows cols p k * rows.getD k zr c) rows.length) rows.length := by
  rw [D_front, List.append_nil]
  show (-1) ^ rows.length * Lx y (D rows) (cols ++ [c]) = _
  rw [Lx_snoc]
  have e1 : Lx y (fun t => D rows (t ++ [c])) cols = - ((-1) ^ rows.length * ssum (fun p => y (cols.getD p 0) * ssum (fun k => adj rows cols p k * rows.getD k zr c) rows.length) rows.length) := by
    have e2 : Lx y (fun t => D rows (t ++ [c])) cols = Lx y (fun t => ssum (fun k => (-((-1) ^ (rows.length + k) * rows.getD k zr c)) * D (rows.eraseIdx k) t) rows.length) cols := by
      refine Lx_congr y (n := 0) cols fun t ht => ?_
      rw [D_col c rows t]
      refine ssum_congr fun k _ => ?_
      rw [← hl, ← ht, show t.length + 1 + k = t.length + k + 1 by omega, Int.pow_succ]; grind
    rw [e2, Lx_ssum y (fun k => -((-1) ^ (rows.length + k) * rows.getD k zr c)) (fun k => D (rows.eraseIdx k))]
    have e3 : ssum (fun k => -((-1) ^ (rows.length + k) * rows.getD k zr c) * Lx y (D (rows.eraseIdx k)) cols) rows.length = ssum (fun k => ssum (fun p => -((-1) ^ rows.length) * (y (cols.getD p 0) * (adj rows cols p k * rows.getD k zr c))) rows.length) rows.length := by
      refine ssum_congr fun k _ => ?_
      rw [Lx_sum, ← ssum_mul, hl]
      refine ssum_congr fun p _ => ?_
      unfold adj
      rw [Int.pow_add, Int.pow_add]; grind
    rw [e3, ssum_swap]
    have e4 : ssum (fun p => ssum (fun k => -((-1) ^ rows.length) * (y (cols.getD p 0) * (adj rows cols p k * rows.getD k zr c))) rows.length) rows.length = ssum (fun p => -((-1) ^ rows.length) * (y (cols.getD p 0) * ssum (fun k => adj rows cols p k * rows.getD k zr c) rows.length)) rows.length := by
      refine ssum_congr fun p _ => ?_
      rw [ssum_mul, ssum_mul]
    rw [e4, ssum_mul]; grind
  rw [e1, hl]
  have s := neg_sq rows.length
  generalize ((-1 : Int) ^ rows.length) = z at *
  generalize ssum _ rows.length = q
  grind
/-- what a row of numbers is that comes to c at one column and to 0 at the others -/
theorem row_is {rows : List Row} {cols : List Nat} {v : Nat → Int} {e : Int} {i k : Nat} (hl : cols.length = rows.length) (hi : i < rows.length) (hk : k < rows.length)
    (h : ∀ p, p < rows.length → ssum (fun j => v j * rows.getD j zr (cols.getD p 0)) rows.length = if i = p then e else 0) : v k * D rows cols = e * adj rows cols i k := by
  have a : ssum (fun p => ssum (fun j => v j * rows.getD j zr (cols.getD p 0)) rows.length * adj rows cols p k) rows.length = e * adj rows cols i k := by
    rw [ssum_one hi fun p hp hne => by rw [h p hp, if_neg (Ne.symm hne)]; simp]
    rw [h i hi, if_pos rfl]
  have b : ssum (fun p => ssum (fun j => v j * rows.getD j zr (cols.getD p 0)) rows.length * adj rows cols p k) rows.length = ssum (fun j => v j * ssum (fun p => rows.getD j zr (cols.getD p 0) * adj rows cols p k) rows.length) rows.length := by
    have e1 : ssum (fun p => ssum (fun j => v j * rows.getD j zr (cols.getD p 0)) rows.length * adj rows cols p k) rows.length = ssum (fun p => ssum (fun j => v j * (rows.getD j zr (cols.getD p 0) * adj rows cols p k)) rows.length) rows.length := by
      refine ssum_congr fun p _ => ?_
      rw [Int.mul_comm, ← ssum_mul]
      refine ssum_congr fun j _ => ?_
      grind
    rw [e1, ssum_swap]
    refine ssum_congr fun j _ => ?_
    rw [← ssum_mul]
  rw [← a, b, ssum_one hk fun j hj hne => by rw [PA hl hj hk, if_neg hne]; simp]
  rw [PA hl hk hk, if_pos rfl]
end Bz
namespace Bz
/-! ### clearing without fractions -/
def ind (a k : Nat) : Int := if a = k then 1 else 0
def rv (A : Nat → Row) (n : Nat) (w : Row) (x : Nat) : Int := ssum (fun k => w k * A k x) n
theorem ind_sum {f : Nat → Int} {a n : Nat} (h : a < n) : ssum (fun k => ind a k * f k) n = f a := by
  rw [ssum_one h fun i _ hne => by unfold ind; rw [if_neg (Ne.symm hne)]; simp]
  unfold ind; rw [if_pos rfl]; simp
theorem rv_lin {A : Nat → Row} {n : Nat} {w u v : Row} {a b : Int} (h : ∀ k, w k = a * u k - b * v k) (x : Nat) : rv A n w x = a * rv A n u x - b * rv A n v x := by
  unfold rv
  have e : ssum (fun k => w k * A k x) n = ssum (fun k => a * (u k * A k x) + (-b) * (v k * A k x)) n := ssum_congr fun k _ => by rw [h k]; grind
  rw [e, ssum_add, ssum_mul, ssum_mul]; grind
theorem rv_sum {A : Nat → Row} {n r : Nat} {w : Row} {g : Nat → Int} {u : Nat → Row} (h : ∀ k, w k = ssum (fun j => g j * u j k) r) (x : Nat) : rv A n w x = ssum (fun j => g j * rv A n (u j) x) r := by
  unfold rv
  have e : ssum (fun k => w k * A k x) n = ssum (fun k => ssum (fun j => g j * (u j k * A k x)) r) n := ssum_congr fun k _ => by
    rw [h k, Int.mul_comm, ← ssum_mul]
    exact ssum_congr fun j _ => by grind
  rw [e, ssum_swap]
  exact ssum_congr fun j _ => ssum_mul _ _ _
theorem rv_ind {A : Nat → Row} {n a : Nat} (h : a < n) (x : Nat) : rv A n (ind a) x = A a x := by
  unfold rv; exact ind_sum (f := fun k => A k x) h
structure St (A : Nat → Row) (n : Nat) (ρ cols : List Nat) (q : Nat → Nat) (d : Int) (W : Nat → Row) : Prop where
  lc : cols.length = ρ.length
  rn : ρ.length ≤ n
  qlt : ∀ i, i < n → q i < n
  ρlt : ∀ j, j < ρ.length → ρ.getD j 0 < n
  det : D (ρ.map A) cols = d
  wp : ∀ i, i < ρ.length → ∀ k, W i k = ssum (fun j => adj (ρ.map A) cols i j * ind (ρ.getD j 0) k) ρ.length
  wn : ∀ i, ρ.length ≤ i → i < n → ∀ k, W i k = d * ind (q i) k - ssum (fun p => A (q i) (cols.getD p 0) * W p k) ρ.length
  one : ∀ i p, i < ρ.length → p < ρ.length → rv A n (W i) (cols.getD p 0) = if i = p then d else 0
section
variable {A : Nat → Row} {n : Nat} {ρ cols : List Nat} {q : Nat → Nat} {d : Int} {W : Nat → Row}
theorem map_getD {j : Nat} (h : j < ρ.length) : (ρ.map A).getD j zr = A (ρ.getD j 0) := by
  rw [List.getD_eq_getElem?_getD, List.getElem?_map, List.getElem?_eq_getElem h, List.getD_eq_getElem?_getD, List.getElem?_eq_getElem h]; rfl
theorem St.rvp (s : St A n ρ cols q d W) {i : Nat} (hi : i < ρ.length) (x : Nat) : rv A n (W i) x = ssum (fun j => adj (ρ.map A) cols i j * A (ρ.getD j 0) x) ρ.length := by
  rw [rv_sum (u := fun j => ind (ρ.getD j 0)) (s.wp i hi)]
  exact ssum_congr fun j hj => by rw [rv_ind (s.ρlt j hj)]
theorem St.rvn (s : St A n ρ cols q d W) {i : Nat} (h1 : ρ.length ≤ i) (hi : i < n) (x : Nat) : rv A n (W i) x = d * A (q i) x - ssum (fun p => A (q i) (cols.getD p 0) * rv A n (W p) x) ρ.length := by
  have h : ∀ k, W i k = d * ind (q i) k - 1 * ssum (fun p => A (q i) (cols.getD p 0) * W p k) ρ.length := fun k => by rw [s.wn i h1 hi k]; omega
  rw [rv_lin h x, rv_ind (s.qlt i hi), rv_sum (w := fun k => ssum (fun p => A (q i) (cols.getD p 0) * W p k) ρ.length) (u := W) (fun k => rfl)]
  omega
theorem St.zero (s : St A n ρ cols q d W) {i p : Nat} (h1 : ρ.length ≤ i) (hi : i < n) (hp : p < ρ.length) : rv A n (W i) (cols.getD p 0) = 0 := by
  rw [s.rvn h1 hi]
  have e : ssum (fun p' => A (q i) (cols.getD p' 0) * rv A n (W p') (cols.getD p 0)) ρ.length = A (q i) (cols.getD p 0) * d := by
    rw [ssum_one hp fun p' hp' hne => by rw [s.one p' p hp' hp, if_neg hne]; simp]
    rw [s.one p p hp hp, if_pos rfl]
  rw [e]; grind
/-- the pivot is the determinant of one row and one column more -/
theorem St.head (s : St A n ρ cols q d W) (hr : ρ.length < n) (c : Nat) : D ((ρ ++ [q ρ.length]).map A) (cols ++ [c]) = rv A n (W ρ.length) c := by
  rw [List.map_append, s.rvn (Nat.le_refl _) hr]
  show D (ρ.map A ++ [A (q ρ.length)]) (cols ++ [c]) = _
  rw [D_border (by rw [List.length_map]; exact s.lc), s.det, List.length_map, Int.mul_comm]
  congr 1
  refine ssum_congr fun p hp => ?_
  rw [s.rvp hp]
  congr 1
  exact ssum_congr fun k hk => by rw [map_getD hk]
theorem app_getD {a j : Nat} {l : List Nat} (h : j < l.length) : (l ++ [a]).getD j 0 = l.getD j 0 := by
  rw [List.getD_eq_getElem?_getD, List.getElem?_append_left h, ← List.getD_eq_getElem?_getD]
theorem app_last {a : Nat} {l : List Nat} : (l ++ [a]).getD l.length 0 = a := by simp
/-- what the rows with the new one in it make of numbers -/
theorem mix (f : Nat → Int) (s : St A n ρ cols q d W) (a L : Int) (g : Nat → Int) :
    ssum (fun j => (if j < ρ.length then a * g j + L * ssum (fun p => A (q ρ.length) (cols.getD p 0) * adj (ρ.map A) cols p j) ρ.length else -(L * d)) * f ((ρ ++ [q ρ.length]).getD j 0)) (ρ.length + 1)
    = a * ssum (fun j => g j * f (ρ.getD j 0)) ρ.length - L * (d * f (q ρ.length) - ssum (fun p => A (q ρ.length) (cols.getD p 0) * ssum (fun j => adj (ρ.map A) cols p j * f (ρ.getD j 0)) ρ.length) ρ.length) := by
  rw [show ∀ F : Nat → Int, ssum F (ρ.length + 1) = ssum F ρ.length + F ρ.length from fun _ => rfl, app_last, if_neg (Nat.lt_irrefl _)]
  have e : ssum (fun j => (if j < ρ.length then a * g j + L * ssum (fun p => A (q ρ.length) (cols.getD p 0) * adj (ρ.map A) cols p j) ρ.length else -(L * d)) * f ((ρ ++ [q ρ.length]).getD j 0)) ρ.length
      = ssum (fun j => a * (g j * f (ρ.getD j 0)) + L * ssum (fun p => A (q ρ.length) (cols.getD p 0) * (adj (ρ.map A) cols p j * f (ρ.getD j 0))) ρ.length) ρ.length := by
    refine ssum_congr fun j hj => ?_
    rw [if_pos hj, app_getD hj]
    have e2 : ssum (fun p => A (q ρ.length) (cols.getD p 0) * (adj (ρ.map A) cols p j * f (ρ.getD j 0))) ρ.length = f (ρ.getD j 0) * ssum (fun p => A (q ρ.length) (cols.getD p 0) * adj (ρ.map A) cols p j) ρ.length := by
      rw [← ssum_mul]
      exact ssum_congr fun p _ => by grind
    rw [e2]; grind
  rw [e, ssum_add, ssum_mul, ssum_mul, ssum_swap (fun j p => A (q ρ.length) (cols.getD p 0) * (adj (ρ.map A) cols p j * f (ρ.getD j 0)))]
  have e3 : ssum (fun p => ssum (fun j => A (q ρ.length) (cols.getD p 0) * (adj (ρ.map A) cols p j * f (ρ.getD j 0))) ρ.length) ρ.length = ssum (fun p => A (q ρ.length) (cols.getD p 0) * ssum (fun j => adj (ρ.map A) cols p j * f (ρ.getD j 0)) ρ.length) ρ.length :=
    ssum_congr fun p _ => ssum_mul _ _ _
  rw [e3]; grind
/-- the clearing step: it goes up, and what comes of it is as before with one row and one column more -/
theorem St.step (s : St A n ρ cols q d W) (hr : ρ.length < n) (c : Nat) (d0 : d ≠ 0) (h0 : rv A n (W ρ.length) c ≠ 0) :
    ∃ W' : Nat → Row, St A n (ρ ++ [q ρ.length]) (cols ++ [c]) q (rv A n (W ρ.length) c) W' ∧ (∀ k, W' ρ.length k = W ρ.length k) ∧
      ∀ i, i < n → i ≠ ρ.length → ∀ k, d * W' i k = rv A n (W ρ.length) c * W i k - rv A n (W i) c * W ρ.length k := by
  have hd := s.head hr c
  generalize hE : rv A n (W ρ.length) c = E at *
  have lr : ((ρ ++ [q ρ.length]).map A).length = ρ.length + 1 := by simp
  have lc' : (cols ++ [c]).length = ((ρ ++ [q ρ.length]).map A).length := by rw [lr]; simp [s.lc]
  have cg : ∀ p, p < ρ.length → (cols ++ [c]).getD p 0 = cols.getD p 0 := fun p hp => app_getD (by rw [s.lc]; exact hp)
  have cl : (cols ++ [c]).getD ρ.length 0 = c := by rw [← s.lc]; exact app_last
  have rg : ∀ j, j < ρ.length + 1 → ((ρ ++ [q ρ.length]).map A).getD j zr = A ((ρ ++ [q ρ.length]).getD j 0) := fun j hj => map_getD (by simp; omega)
  -- the head as a row of the new adjugate
  have head : ∀ j, j < ρ.length + 1 → (if j < ρ.length then (0 : Int) * 0 + (-1) * ssum (fun p => A (q ρ.length) (cols.getD p 0) * adj (ρ.map A) cols p j) ρ.length else -((-1) * d)) = adj ((ρ ++ [q ρ.length]).map A) (cols ++ [c]) ρ.length j := fun j hj => by
    have := row_is (rows := (ρ ++ [q ρ.length]).map A) (cols := cols ++ [c]) (v := fun j => if j < ρ.length then (0 : Int) * 0 + (-1) * ssum (fun p => A (q ρ.length) (cols.getD p 0) * adj (ρ.map A) cols p j) ρ.length else -((-1) * d)) (e := E) (i := ρ.length) (k := j) lc' (by rw [lr]; omega) (by rw [lr]; exact hj) (fun p hp => by
      rw [lr] at hp ⊢
      have e1 := mix (fun a => A a ((cols ++ [c]).getD p 0)) s 0 (-1) (fun _ => 0)
      have e2 : ssum (fun j => (if j < ρ.length then (0 : Int) * 0 + (-1) * ssum (fun p => A (q ρ.length) (cols.getD p 0) * adj (ρ.map A) cols p j) ρ.length else -((-1) * d)) * ((ρ ++ [q ρ.length]).map A).getD j zr ((cols ++ [c]).getD p 0)) (ρ.length + 1) = _ := (ssum_congr fun j hj => by rw [rg j hj]).trans e1
      rw [e2]
      have e3 : d * A (q ρ.length) ((cols ++ [c]).getD p 0) - ssum (fun p' => A (q ρ.length) (cols.getD p' 0) * ssum (fun j => adj (ρ.map A) cols p' j * A (ρ.getD j 0) ((cols ++ [c]).getD p 0)) ρ.length) ρ.length = rv A n (W ρ.length) ((cols ++ [c]).getD p 0) := by
        rw [s.rvn (Nat.le_refl _) hr]
        congr 1
        exact ssum_congr fun p' hp' => by rw [s.rvp hp']
      rw [e3]
      by_cases hpr : p < ρ.length
      · rw [cg p hpr, s.zero (Nat.le_refl _) hr hpr, if_neg (by omega)]; simp
      · have : p = ρ.length := by omega
        subst this
        rw [cl, hE, if_pos rfl]; omega)
    rw [hd] at this
    refine Int.eq_of_mul_eq_mul_left h0 ?_
    rw [← this]; grind
  have hk : ∀ k, W ρ.length k = ssum (fun j => adj ((ρ ++ [q ρ.length]).map A) (cols ++ [c]) ρ.length j * ind ((ρ ++ [q ρ.length]).getD j 0) k) (ρ.length + 1) := fun k => by
    have e1 := mix (fun a => ind a k) s 0 (-1) (fun _ => 0)
    have e2 : ssum (fun j => adj ((ρ ++ [q ρ.length]).map A) (cols ++ [c]) ρ.length j * ind ((ρ ++ [q ρ.length]).getD j 0) k) (ρ.length + 1) = _ := (ssum_congr fun j hj => by rw [← head j hj]).trans e1
    rw [e2, s.wn _ (Nat.le_refl _) hr k]
    have e3 : ssum (fun p => A (q ρ.length) (cols.getD p 0) * W p k) ρ.length = ssum (fun p => A (q ρ.length) (cols.getD p 0) * ssum (fun j => adj (ρ.map A) cols p j * ind (ρ.getD j 0) k) ρ.length) ρ.length := ssum_congr fun p hp => by rw [s.wp p hp k]
    rw [e3]; omega
  -- the lines above
  have above : ∀ i, i < ρ.length → ∀ j, j < ρ.length + 1 → (if j < ρ.length then E * adj (ρ.map A) cols i j + rv A n (W i) c * ssum (fun p => A (q ρ.length) (cols.getD p 0) * adj (ρ.map A) cols p j) ρ.length else -(rv A n (W i) c * d)) = d * adj ((ρ ++ [q ρ.length]).map A) (cols ++ [c]) i j := fun i hi j hj => by
    have := row_is (rows := (ρ ++ [q ρ.length]).map A) (cols := cols ++ [c]) (v := fun j => if j < ρ.length then E * adj (ρ.map A) cols i j + rv A n (W i) c * ssum (fun p => A (q ρ.length) (cols.getD p 0) * adj (ρ.map A) cols p j) ρ.length else -(rv A n (W i) c * d)) (e := d * E) (i := i) (k := j) lc' (by rw [lr]; omega) (by rw [lr]; exact hj) (fun p hp => by
      rw [lr] at hp ⊢
      have e1 := mix (fun a => A a ((cols ++ [c]).getD p 0)) s E (rv A n (W i) c) (fun j => adj (ρ.map A) cols i j)
      have e2 : ssum (fun j => (if j < ρ.length then E * adj (ρ.map A) cols i j + rv A n (W i) c * ssum (fun p => A (q ρ.length) (cols.getD p 0) * adj (ρ.map A) cols p j) ρ.length else -(rv A n (W i) c * d)) * ((ρ ++ [q ρ.length]).map A).getD j zr ((cols ++ [c]).getD p 0)) (ρ.length + 1) = _ := (ssum_congr fun j hj => by rw [rg j hj]).trans e1
      rw [e2]
      have e3 : d * A (q ρ.length) ((cols ++ [c]).getD p 0) - ssum (fun p' => A (q ρ.length) (cols.getD p' 0) * ssum (fun j => adj (ρ.map A) cols p' j * A (ρ.getD j 0) ((cols ++ [c]).getD p 0)) ρ.length) ρ.length = rv A n (W ρ.length) ((cols ++ [c]).getD p 0) := by
        rw [s.rvn (Nat.le_refl _) hr]
        congr 1
        exact ssum_congr fun p' hp' => by rw [s.rvp hp']
      rw [e3, ← s.rvp hi]
      by_cases hpr : p < ρ.length
      · rw [cg p hpr, s.zero (Nat.le_refl _) hr hpr, s.one i p hi hpr]
        split <;> grind
      · have : p = ρ.length := by omega
        subst this
        rw [cl, hE, if_neg (by omega)]; grind)
    rw [hd] at this
    refine Int.eq_of_mul_eq_mul_left h0 ?_
    rw [Int.mul_comm, this]; grind
  have abk : ∀ i, i < ρ.length → ∀ k, d * ssum (fun j => adj ((ρ ++ [q ρ.length]).map A) (cols ++ [c]) i j * ind ((ρ ++ [q ρ.length]).getD j 0) k) (ρ.length + 1) = E * W i k - rv A n (W i) c * W ρ.length k := fun i hi k => by
    have e1 := mix (fun a => ind a k) s E (rv A n (W i) c) (fun j => adj (ρ.map A) cols i j)
    have e2 : d * ssum (fun j => adj ((ρ ++ [q ρ.length]).map A) (cols ++ [c]) i j * ind ((ρ ++ [q ρ.length]).getD j 0) k) (ρ.length + 1) = _ := ((ssum_mul _ _ _).symm.trans (ssum_congr fun j hj => by rw [above i hi j hj]; grind)).trans e1
    rw [e2, s.wn _ (Nat.le_refl _) hr k, s.wp i hi k]
    have e3 : ssum (fun p => A (q ρ.length) (cols.getD p 0) * W p k) ρ.length = ssum (fun p => A (q ρ.length) (cols.getD p 0) * ssum (fun j => adj (ρ.map A) cols p j * ind (ρ.getD j 0) k) ρ.length) ρ.length := ssum_congr fun p hp => by rw [s.wp p hp k]
    rw [e3]
  let V : Nat → Row := fun i k => if i = ρ.length then W ρ.length k else ssum (fun j => adj ((ρ ++ [q ρ.length]).map A) (cols ++ [c]) i j * ind ((ρ ++ [q ρ.length]).getD j 0) k) (ρ.length + 1)
  let W' : Nat → Row := fun i k => if i < ρ.length + 1 then V i k else E * ind (q i) k - ssum (fun p => A (q i) ((cols ++ [c]).getD p 0) * V p k) (ρ.length + 1)
  have Wr : ∀ k, W' ρ.length k = W ρ.length k := fun k => by
    show (if ρ.length < ρ.length + 1 then (if ρ.length = ρ.length then W ρ.length k else _) else _) = _
    rw [if_pos (Nat.lt_succ_self _), if_pos rfl]
  have Wi : ∀ i, i < ρ.length → ∀ k, W' i k = ssum (fun j => adj ((ρ ++ [q ρ.length]).map A) (cols ++ [c]) i j * ind ((ρ ++ [q ρ.length]).getD j 0) k) (ρ.length + 1) := fun i hi k => by
    show (if i < ρ.length + 1 then (if i = ρ.length then _ else _) else _) = _
    rw [if_pos (by omega), if_neg (by omega)]
  have WV : ∀ p, p < ρ.length + 1 → ∀ k, W' p k = V p k := fun p hp k => by
    show (if p < ρ.length + 1 then V p k else _) = _
    rw [if_pos hp]
  have Wn : ∀ i, ρ.length + 1 ≤ i → ∀ k, W' i k = E * ind (q i) k - ssum (fun p => A (q i) ((cols ++ [c]).getD p 0) * W' p k) (ρ.length + 1) := fun i hi k => by
    show (if i < ρ.length + 1 then V i k else _) = _
    rw [if_neg (by omega)]
    congr 1
    exact ssum_congr fun p hp => by rw [WV p hp]
  have H : ∀ i, i < n → i ≠ ρ.length → ∀ k, d * W' i k = E * W i k - rv A n (W i) c * W ρ.length k := fun i hi hne k => by
    by_cases hir : i < ρ.length
    · rw [Wi i hir k]; exact abk i hir k
    · rw [Wn i (by omega) k, s.wn i (by omega) hi k, s.rvn (by omega) hi c]
      rw [show ∀ F : Nat → Int, ssum F (ρ.length + 1) = ssum F ρ.length + F ρ.length from fun _ => rfl, cl, Wr]
      have e1 : d * ssum (fun p => A (q i) ((cols ++ [c]).getD p 0) * W' p k) ρ.length = ssum (fun p => E * (A (q i) (cols.getD p 0) * W p k) + (-(W ρ.length k)) * (A (q i) (cols.getD p 0) * rv A n (W p) c)) ρ.length := by
        rw [← ssum_mul]
        refine ssum_congr fun p hp => ?_
        have := abk p hp k
        rw [cg p hp, Wi p hp k]
        grind
      rw [ssum_add, ssum_mul, ssum_mul] at e1
      grind
  refine ⟨W', ⟨by simp [s.lc], by simp; omega, s.qlt, fun j hj => ?_, hd, fun i hi k => ?_, fun i h1 hi k => ?_, fun i p hi hp => ?_⟩, Wr, H⟩
  · by_cases hjr : j < ρ.length
    · rw [app_getD hjr]; exact s.ρlt j hjr
    · have : j = ρ.length := by simp at hj; omega
      rw [this, app_last]; exact s.qlt _ hr
  · rw [show (ρ ++ [q ρ.length]).length = ρ.length + 1 by simp] at hi ⊢
    by_cases hir : i < ρ.length
    · exact Wi i hir k
    · have : i = ρ.length := by omega
      subst this
      rw [Wr k]; exact hk k
  · rw [show (ρ ++ [q ρ.length]).length = ρ.length + 1 by simp] at h1 ⊢
    exact Wn i h1 k
  · rw [show (ρ ++ [q ρ.length]).length = ρ.length + 1 by simp] at hi hp
    have hrr : ∀ x, rv A n (W' ρ.length) x = rv A n (W ρ.length) x := fun x => by
      unfold rv; exact ssum_congr fun k _ => by rw [Wr k]
    by_cases hir : i < ρ.length
    · have lin : d * rv A n (W' i) ((cols ++ [c]).getD p 0) = E * rv A n (W i) ((cols ++ [c]).getD p 0) - rv A n (W i) c * rv A n (W ρ.length) ((cols ++ [c]).getD p 0) := by
        have := rv_lin (A := A) (n := n) (w := fun k => d * W' i k) (u := W i) (v := W ρ.length) (a := E) (b := rv A n (W i) c) (fun k => H i (by omega) (by omega) k) ((cols ++ [c]).getD p 0)
        rw [← this]
        unfold rv
        rw [← ssum_mul]
        exact ssum_congr fun k _ => by grind
      refine Int.eq_of_mul_eq_mul_left d0 ?_
      rw [lin]
      by_cases hpr : p < ρ.length
      · rw [cg p hpr, s.zero (Nat.le_refl _) hr hpr, s.one i p hir hpr]
        split <;> grind
      · have : p = ρ.length := by omega
        subst this
        rw [cl, hE, if_neg (by omega)]; grind
    · have : i = ρ.length := by omega
      subst this
      rw [hrr]
      by_cases hpr : p < ρ.length
      · rw [cg p hpr, s.zero (Nat.le_refl _) hr hpr, if_neg (by omega)]
      · have : p = ρ.length := by omega
        subst this
        rw [cl, hE, if_pos rfl]
end
end Bz
namespace Bz
/-! ### where it begins; lines that change their places -/
theorem St.start {A : Nat → Row} {n : Nat} : St A n [] [] id 1 (fun i => ind i) where
  lc := rfl
  rn := Nat.zero_le _
  qlt := fun _ h => h
  ρlt := fun _ h => absurd h (Nat.not_lt_zero _)
  det := rfl
  wp := fun _ h => absurd h (Nat.not_lt_zero _)
  wn := fun i _ _ k => by
    show ind i k = 1 * ind i k - 0
    omega
  one := fun _ _ h => absurd h (Nat.not_lt_zero _)
theorem St.perm {A : Nat → Row} {n : Nat} {ρ cols : List Nat} {q : Nat → Nat} {d : Int} {W : Nat → Row} (s : St A n ρ cols q d W) {π : Nat → Nat} (h1 : ∀ i, i < ρ.length → π i = i) (h2 : ∀ i, ρ.length ≤ i → i < n → ρ.length ≤ π i ∧ π i < n) : St A n ρ cols (fun i => q (π i)) d (fun i => W (π i)) where
  lc := s.lc
  rn := s.rn
  qlt := fun i hi => s.qlt _ (by
    by_cases h : i < ρ.length
    · rw [h1 i h]; exact hi
    · exact (h2 i (by omega) hi).2)
  ρlt := s.ρlt
  det := s.det
  wp := fun i hi k => by
    show W (π i) k = _
    rw [h1 i hi]; exact s.wp i hi k
  wn := fun i hi hn k => by
    obtain ⟨a, b⟩ := h2 i hi hn
    have := s.wn (π i) a b k
    rw [this]
    congr 1
    exact ssum_congr fun p hp => by rw [h1 p hp]
  one := fun i p hi hp => by
    show rv A n (W (π i)) _ = _
    rw [h1 i hi]; exact s.one i p hi hp
/-! ### sizes -/
def Ab (x B : Int) : Prop := -B ≤ x ∧ x ≤ B
theorem Ab.mul {x y B C : Int} (h : Ab x B) (h' : Ab y C) : Ab (x * y) (B * C) := by
  obtain ⟨a, b⟩ := h
  obtain ⟨c, d⟩ := h'
  have B0 : 0 ≤ B := by omega
  have C0 : 0 ≤ C := by omega
  have hb : x.natAbs ≤ B.natAbs := by omega
  have hc : y.natAbs ≤ C.natAbs := by omega
  have hm := Nat.mul_le_mul hb hc
  rw [← Int.natAbs_mul, ← Int.natAbs_mul] at hm
  have p := Int.mul_nonneg B0 C0
  exact ⟨by omega, by omega⟩
theorem Ab.add {x y B C : Int} (h : Ab x B) (h' : Ab y C) : Ab (x + y) (B + C) := ⟨by have := h.1; have := h'.1; omega, by have := h.2; have := h'.2; omega⟩
theorem Ab.sub {x y B C : Int} (h : Ab x B) (h' : Ab y C) : Ab (x - y) (B + C) := ⟨by have := h.1; have := h'.2; omega, by have := h.2; have := h'.1; omega⟩
theorem Ab.mono {x B C : Int} (h : Ab x B) (h' : B ≤ C) : Ab x C := ⟨by have := h.1; omega, by have := h.2; omega⟩
theorem Ab.sum {f : Nat → Int} {B : Int} : ∀ {n : Nat}, (∀ i, i < n → Ab (f i) B) → Ab (ssum f n) (n * B)
  | 0, _ => ⟨by simp [ssum], by simp [ssum]⟩
  | n + 1, h => by
    have i := Ab.sum (n := n) fun i hi => h i (by omega)
    have := Ab.add i (h n (by omega))
    have e : (n : Int) * B + B = ((n + 1 : Nat) : Int) * B := by rw [show ((n + 1 : Nat) : Int) = (n : Int) + 1 from rfl, Int.add_mul, Int.one_mul]
    rw [e] at this; exact this
theorem Ab.pow {k : Nat} {x B : Int} (h : Ab x B) : Ab ((-1) ^ k * x) B := by
  rcases (by induction k with
    | zero => exact .inl rfl
    | succ k ih => rw [Int.pow_succ]; rcases ih with e | e <;> rw [e] <;> simp : ((-1 : Int) ^ k = 1 ∨ (-1 : Int) ^ k = -1)) with e | e
  · rw [e, Int.one_mul]; exact h
  · rw [e]
    obtain ⟨a, b⟩ := h
    exact ⟨by omega, by omega⟩
/-- the bound: each row gives at most 12 times B -/
theorem Ab.det {B : Int} (B0 : 1 ≤ B) : ∀ (rows : List Row) (cols : List Nat), (∀ x ∈ rows, ∀ c ∈ cols, Ab (x c) B) → cols.length ≤ 12 → Ab (D rows cols) ((12 * B) ^ rows.length)
  | [], cols, _, _ => by
    show Ab (F0 cols) ((12 * B) ^ 0)
    rw [Int.pow_zero]
    unfold F0
    split
    · exact ⟨by decide, by decide⟩
    · exact ⟨by decide, by decide⟩
  | x :: rows, cols, h, hl => by
    show Ab (Lx x (D rows) cols) _
    rw [Lx_sum, List.length_cons, Int.pow_succ]
    have P0 : (0 : Int) ≤ (12 * B) ^ rows.length := Int.pow_nonneg (by omega)
    have each : ∀ p, p < cols.length → Ab ((-1) ^ p * (x (cols.getD p 0) * D rows (cols.eraseIdx p))) (B * (12 * B) ^ rows.length) := fun p hp => by
      refine Ab.pow (Ab.mul ?_ (Ab.det B0 rows (cols.eraseIdx p) (fun y hy c hc => h y (List.mem_cons_of_mem _ hy) c (List.mem_of_mem_eraseIdx hc)) ?_))
      · rw [List.getD_eq_getElem?_getD, List.getElem?_eq_getElem hp]
        exact h x List.mem_cons_self _ (List.getElem_mem hp)
      · rw [List.length_eraseIdx]; split <;> omega
    refine (Ab.sum each).mono ?_
    have Q0 : 0 ≤ B * (12 * B) ^ rows.length := Int.mul_nonneg (by omega) P0
    have := Int.mul_le_mul_of_nonneg_right (show (cols.length : Int) ≤ 12 by omega) Q0
    refine Int.le_trans this ?_
    have e : 12 * (B * (12 * B) ^ rows.length) = (12 * B) ^ rows.length * (12 * B) := by grind
    omega
section
variable {A : Nat → Row} {n : Nat} {ρ cols : List Nat} {q : Nat → Nat} {d : Int} {W : Nat → Row}
structure Bd (A : Nat → Row) (n m : Nat) (B : Int) : Prop where
  b1 : 1 ≤ B
  ab : ∀ k x, k < n → x < m → Ab (A k x) B
/-- a line's numbers: below this -/
def top (B : Int) (r : Nat) : Int := (12 * B) ^ (r + 3)
theorem pow_le {B : Int} {a b : Nat} (h : 1 ≤ B) (hab : a ≤ b) : (12 * B) ^ a ≤ (12 * B) ^ b := by
  obtain ⟨c, rfl⟩ := Nat.exists_eq_add_of_le hab
  rw [Int.pow_add]
  have p : (1 : Int) ≤ (12 * B) ^ c := by
    have : 0 < (12 * B) ^ c := Int.pow_pos (by omega)
    omega
  have q : (0 : Int) ≤ (12 * B) ^ a := Int.pow_nonneg (by omega)
  have := Int.mul_le_mul_of_nonneg_left p q
  omega
theorem St.abs (s : St A n ρ cols q d W) {m : Nat} {B : Int} (b : Bd A n m B) (hc : ∀ c ∈ cols, c < m) (hr : ρ.length ≤ 12) :
    (∀ i k, i < n → Ab (W i k) (top B ρ.length)) ∧ (∀ i x, i < n → x < m → Ab (rv A n (W i) x) (top B ρ.length)) ∧ Ab d (top B ρ.length) := by
  have B0 := b.b1
  have mem : ∀ j, j < ρ.length → ρ.getD j 0 ∈ ρ := fun j hj => by
    rw [List.getD_eq_getElem?_getD, List.getElem?_eq_getElem hj]; exact List.getElem_mem hj
  have ρn : ∀ a ∈ ρ, a < n := fun a ha => by
    obtain ⟨j, hj, e⟩ := List.getElem_of_mem ha
    have := s.ρlt j hj
    rw [List.getD_eq_getElem?_getD, List.getElem?_eq_getElem hj] at this
    rw [← e]; exact this
  have ent : ∀ x ∈ ρ.map A, ∀ c ∈ cols, Ab (x c) B := fun x hx c hc' => by
    obtain ⟨a, ha, rfl⟩ := List.mem_map.mp hx
    exact b.ab a c (ρn a ha) (hc c hc')
  have cl : cols.length ≤ 12 := by rw [s.lc]; exact hr
  have hd : Ab d ((12 * B) ^ ρ.length) := by
    have := Ab.det B0 (ρ.map A) cols ent cl
    rw [s.det, List.length_map] at this; exact this
  have had : ∀ p k, Ab (adj (ρ.map A) cols p k) ((12 * B) ^ ρ.length) := fun p k => by
    unfold adj
    refine Ab.pow ((Ab.det B0 _ _ (fun x hx c hc' => ent x (List.mem_of_mem_eraseIdx hx) c (List.mem_of_mem_eraseIdx hc')) ?_).mono (pow_le B0 ?_))
    · rw [List.length_eraseIdx]; split <;> omega
    · rw [List.length_eraseIdx, List.length_map]; split <;> omega
  have i1 : ∀ a k, Ab (ind a k) 1 := fun a k => by unfold ind; split <;> exact ⟨by decide, by decide⟩
  have P0 : (0 : Int) ≤ (12 * B) ^ ρ.length := Int.pow_nonneg (by omega)
  have le12 : ∀ {C : Int}, 0 ≤ C → (ρ.length : Int) * C ≤ 12 * C := fun h => Int.mul_le_mul_of_nonneg_right (by omega) h
  have c1 : 12 * (12 * B) ^ ρ.length ≤ (12 * B) ^ (ρ.length + 1) := by
    rw [Int.pow_succ]
    have := Int.mul_le_mul_of_nonneg_left (show (12 : Int) ≤ 12 * B by omega) P0
    omega
  have wp : ∀ i k, i < ρ.length → Ab (W i k) ((12 * B) ^ (ρ.length + 1)) := fun i k hi => by
    rw [s.wp i hi k]
    refine (Ab.sum (B := (12 * B) ^ ρ.length) fun j hj => ?_).mono (Int.le_trans (le12 P0) c1)
    have := Ab.mul (had i j) (i1 (ρ.getD j 0) k)
    rw [Int.mul_one] at this; exact this
  have rp : ∀ i x, i < ρ.length → x < m → Ab (rv A n (W i) x) ((12 * B) ^ (ρ.length + 1)) := fun i x hi hx => by
    rw [s.rvp hi]
    have Q0 : 0 ≤ (12 * B) ^ ρ.length * B := Int.mul_nonneg P0 (by omega)
    refine (Ab.sum (B := (12 * B) ^ ρ.length * B) fun j hj => Ab.mul (had i j) (b.ab _ x (s.ρlt j hj) hx)).mono (Int.le_trans (le12 Q0) ?_)
    rw [Int.pow_succ]
    have : 12 * ((12 * B) ^ ρ.length * B) = (12 * B) ^ ρ.length * (12 * B) := by grind
    omega
  have S0 : (0 : Int) ≤ (12 * B) ^ (ρ.length + 1) := Int.pow_nonneg (by omega)
  have T0 : (0 : Int) ≤ (12 * B) ^ (ρ.length + 2) := Int.pow_nonneg (by omega)
  have c2 : 12 * (B * (12 * B) ^ (ρ.length + 1)) = (12 * B) ^ (ρ.length + 2) := by
    rw [show ρ.length + 2 = ρ.length + 1 + 1 from rfl, Int.pow_succ]; grind
  have c3 : (12 * B) ^ (ρ.length + 2) + (12 * B) ^ (ρ.length + 2) ≤ top B ρ.length := by
    unfold top
    have e : (12 * B) ^ (ρ.length + 3) = (12 * B) ^ (ρ.length + 2) * (12 * B) := Int.pow_succ _ _
    rw [e]
    have := Int.mul_le_mul_of_nonneg_left (show (2 : Int) ≤ 12 * B by omega) T0
    omega
  have c4 : (12 * B) ^ (ρ.length + 1) ≤ (12 * B) ^ (ρ.length + 2) := pow_le B0 (by omega)
  have c5 : (12 * B) ^ ρ.length ≤ (12 * B) ^ (ρ.length + 2) := pow_le B0 (by omega)
  have c6 : (12 * B) ^ ρ.length * B ≤ (12 * B) ^ (ρ.length + 2) := by
    refine Int.le_trans ?_ c4
    rw [Int.pow_succ]
    exact Int.mul_le_mul_of_nonneg_left (by omega) P0
  have U0 : 0 ≤ B * (12 * B) ^ (ρ.length + 1) := Int.mul_nonneg (by omega) S0
  have colm : ∀ p, p < ρ.length → cols.getD p 0 < m := fun p hp => by
    have hp' : p < cols.length := by rw [s.lc]; exact hp
    rw [List.getD_eq_getElem?_getD, List.getElem?_eq_getElem hp']
    exact hc _ (List.getElem_mem hp')
  refine ⟨fun i k hi => ?_, fun i x hi hx => ?_, hd.mono (by omega)⟩
  · by_cases hir : i < ρ.length
    · exact (wp i k hir).mono (by omega)
    · rw [s.wn i (by omega) hi k]
      have a1 := Ab.mul hd (i1 (q i) k)
      rw [Int.mul_one] at a1
      refine (Ab.sub a1 (Ab.sum (B := B * (12 * B) ^ (ρ.length + 1)) fun p hp => Ab.mul (b.ab (q i) _ (s.qlt i hi) (colm p hp)) (wp p k hp))).mono ?_
      have := le12 U0
      omega
  · by_cases hir : i < ρ.length
    · exact (rp i x hir hx).mono (by omega)
    · rw [s.rvn (by omega) hi]
      refine (Ab.sub (Ab.mul hd (b.ab (q i) x (s.qlt i hi) hx)) (Ab.sum (B := B * (12 * B) ^ (ρ.length + 1)) fun p hp => Ab.mul (b.ab (q i) _ (s.qlt i hi) (colm p hp)) (rp p x hp hx))).mono ?_
      have := le12 U0
      omega
end
end Bz
namespace Bz
/-! ### lines as lists -/
def unitL (n i : Nat) : List Int := (List.range n).map (ind i)
def movedL (ls : List (List Int)) (f k : Nat) : List (List Int) := ls.take f ++ [ls.getD k []] ++ (ls.drop f).take (k - f) ++ ls.drop (k + 1)
def clearL (l h : List Int) (c : Nat) (d : Int) : List Int := (l.zip h).map fun p => (h.getD c 0 * p.1 - l.getD c 0 * p.2).fdiv d
def lineL (A : Nat → Row) (n m : Nat) (w : Row) : List Int := (List.range m).map (fun x => rv A n w x) ++ (List.range n).map w
def linesL (A : Nat → Row) (n m : Nat) (W : Nat → Row) : List (List Int) := (List.range n).map fun i => lineL A n m (W i)
def arr (rows : List (List Int)) : Nat → Row := fun k x => (rows.getD k []).getD x 0
theorem line_len {A : Nat → Row} {n m : Nat} {w : Row} : (lineL A n m w).length = m + n := by unfold lineL; simp
theorem line_at {A : Nat → Row} {n m x : Nat} {w : Row} (h : x < m) : (lineL A n m w).getD x 0 = rv A n w x := by
  unfold lineL
  rw [List.getD_eq_getElem?_getD, List.getElem?_append_left (by simpa using h), List.getElem?_map, List.getElem?_range h]; rfl
theorem lines_at {A : Nat → Row} {n m i : Nat} {W : Nat → Row} (h : i < n) : (linesL A n m W).getD i [] = lineL A n m (W i) := by
  unfold linesL
  rw [List.getD_eq_getElem?_getD, List.getElem?_map, List.getElem?_range h]; rfl
theorem lines_len {A : Nat → Row} {n m : Nat} {W : Nat → Row} : (linesL A n m W).length = n := by unfold linesL; simp
theorem line_congr {A : Nat → Row} {n m : Nat} {w u : Row} (h : ∀ k, w k = u k) : lineL A n m w = lineL A n m u := by
  have : w = u := funext h
  rw [this]
theorem lines_start {rows : List (List Int)} {m : Nat} (hl : ∀ r ∈ rows, r.length = m) : (List.range rows.length).map (fun i => rows.getD i [] ++ unitL rows.length i) = linesL (arr rows) rows.length m (fun i => ind i) := by
  unfold linesL
  apply List.map_congr_left
  intro i hi
  have hi := List.mem_range.mp hi
  unfold lineL unitL
  congr 1
  have g : rows.getD i [] = rows[i] := by rw [List.getD_eq_getElem?_getD, List.getElem?_eq_getElem hi]; rfl
  have ml := hl rows[i] (List.getElem_mem hi)
  apply List.ext_getElem
  · rw [g, ml]; simp
  · intro x h1 h2
    simp only [List.getElem_map, List.getElem_range]
    rw [rv_ind hi]
    unfold arr
    rw [List.getD_eq_getElem?_getD (l := rows.getD i []), List.getElem?_eq_getElem h1]; rfl
def rot (r k i : Nat) : Nat := if i < r then i else if i = r then k else if i ≤ k then i - 1 else i
theorem lines_moved {A : Nat → Row} {n m r k : Nat} {W : Nat → Row} (hr : r ≤ k) (hk : k < n) : movedL (linesL A n m W) r k = linesL A n m (fun i => W (rot r k i)) := by
  unfold movedL
  rw [lines_at hk]
  unfold linesL
  apply List.ext_getElem?
  intro i
  rw [List.getElem?_map]
  simp only [List.append_assoc]
  by_cases h1 : i < r
  · rw [List.getElem?_append_left (by simp; omega), List.getElem?_take_of_lt h1, List.getElem?_map]
    rw [List.getElem?_range (by omega)]
    have : rot r k i = i := by unfold rot; rw [if_pos h1]
    simp [this]
  · rw [List.getElem?_append_right (by simp; omega)]
    have lt : ((List.map (fun i => lineL A n m (W i)) (List.range n)).take r).length = r := by simp; omega
    rw [lt]
    by_cases h2 : i = r
    · subst h2
      rw [Nat.sub_self, List.getElem?_append_left (by simp)]
      rw [List.getElem?_range (by omega)]
      have : rot i k i = k := by unfold rot; rw [if_neg (Nat.lt_irrefl _), if_pos rfl]
      simp [this]
    · rw [List.getElem?_append_right (by simp; omega)]
      show (_ ++ _)[i - r - 1]? = _
      have l2 : ((List.map (fun i => lineL A n m (W i)) (List.range n)).drop r |>.take (k - r)).length = k - r := by simp; omega
      by_cases h3 : i ≤ k
      · rw [List.getElem?_append_left (by rw [l2]; omega), List.getElem?_take_of_lt (by omega), List.getElem?_drop, List.getElem?_map, List.getElem?_range (by omega), List.getElem?_range (by omega)]
        have : rot r k i = i - 1 := by unfold rot; rw [if_neg h1, if_neg h2, if_pos h3]
        simp only [Option.map_some, this]
        rw [show r + (i - r - 1) = i - 1 by omega]
      · rw [List.getElem?_append_right (by rw [l2]; omega), l2, List.getElem?_drop, List.getElem?_map]
        rw [show k + 1 + (i - r - 1 - (k - r)) = i by omega]
        by_cases h4 : i < n
        · rw [List.getElem?_range h4]
          have : rot r k i = i := by unfold rot; rw [if_neg h1, if_neg h2, if_neg h3]
          simp [this]
        · rw [List.getElem?_eq_none (by simpa using h4)]
          rfl
theorem fdiv_exact {a b d : Int} (h : d ≠ 0) (e : d * b = a) : a.fdiv d = b := by
  rw [← e]; exact Int.mul_fdiv_cancel_left b h
theorem line_clear {A : Nat → Row} {n m c : Nat} {w u v : Row} {d : Int} (hc : c < m) (d0 : d ≠ 0) (h : ∀ k, d * v k = rv A n u c * w k - rv A n w c * u k) : clearL (lineL A n m w) (lineL A n m u) c d = lineL A n m v := by
  have hr : ∀ x, d * rv A n v x = rv A n u c * rv A n w x - rv A n w c * rv A n u x := fun x => by
    have := rv_lin (A := A) (n := n) (w := fun k => d * v k) (u := w) (v := u) (a := rv A n u c) (b := rv A n w c) h x
    rw [← this]
    unfold rv
    rw [← ssum_mul]
    exact ssum_congr fun k _ => by grind
  unfold clearL
  rw [line_at hc, line_at hc]
  unfold lineL
  rw [List.zip_append (by simp), List.map_append]
  congr 1
  · apply List.ext_getElem
    · simp
    · intro x h1 h2
      simp only [List.getElem_map, List.getElem_zip, List.getElem_range]
      exact fdiv_exact d0 (hr x)
  · apply List.ext_getElem
    · simp
    · intro x h1 h2
      simp only [List.getElem_map, List.getElem_zip, List.getElem_range]
      exact fdiv_exact d0 (h x)
/-- what is kept turn by turn: the first col columns have been looked at -/
structure Turn (A : Nat → Row) (n : Nat) (col : Nat) (ρ cols : List Nat) (q : Nat → Nat) (d : Int) (W : Nat → Row) : Prop where
  st : St A n ρ cols q d W
  d0 : d ≠ 0
  cl : ∀ c ∈ cols, c < col
  piv : ∀ i, i < ρ.length → q i = ρ.getD i 0
  sur : ∀ k, k < n → ∃ i, i < n ∧ q i = k
  zero : ∀ i, ρ.length ≤ i → i < n → ∀ x, x < col → rv A n (W i) x = 0
  all : cols = List.range col ∨ ∃ x, x < col ∧ x ∉ cols
theorem Turn.start {A : Nat → Row} {n : Nat} : Turn A n 0 [] [] id 1 (fun i => ind i) where
  st := St.start
  d0 := by decide
  cl := fun _ h => nomatch h
  piv := fun _ h => absurd h (Nat.not_lt_zero _)
  sur := fun k h => ⟨k, h, rfl⟩
  zero := fun _ _ _ _ h => absurd h (Nat.not_lt_zero _)
  all := .inl rfl
section
variable {A : Nat → Row} {n col : Nat} {ρ cols : List Nat} {q : Nat → Nat} {d : Int} {W : Nat → Row}
theorem Turn.skip (t : Turn A n col ρ cols q d W) (h : ∀ i, ρ.length ≤ i → i < n → rv A n (W i) col = 0) : Turn A n (col + 1) ρ cols q d W where
  st := t.st
  d0 := t.d0
  cl := fun c hc => Nat.lt_succ_of_lt (t.cl c hc)
  piv := t.piv
  sur := t.sur
  zero := fun i h1 h2 x hx => by
    by_cases e : x = col
    · rw [e]; exact h i h1 h2
    · exact t.zero i h1 h2 x (by omega)
  all := .inr ⟨col, Nat.lt_succ_self _, fun z => absurd (t.cl col z) (Nat.lt_irrefl _)⟩
theorem Turn.move (t : Turn A n col ρ cols q d W) {k : Nat} (h1 : ρ.length ≤ k) (h2 : k < n) : Turn A n col ρ cols (fun i => q (rot ρ.length k i)) d (fun i => W (rot ρ.length k i)) where
  st := t.st.perm (fun i hi => by unfold rot; rw [if_pos hi]) fun i a b => by unfold rot; split <;> (try split) <;> (try split) <;> omega
  d0 := t.d0
  cl := t.cl
  piv := fun i hi => by
    show q (rot ρ.length k i) = _
    rw [show rot ρ.length k i = i by unfold rot; rw [if_pos hi]]; exact t.piv i hi
  sur := fun j hj => by
    obtain ⟨i, hi, e⟩ := t.sur j hj
    by_cases a : i < ρ.length
    · exact ⟨i, hi, by show q (rot ρ.length k i) = j; rw [show rot ρ.length k i = i by unfold rot; rw [if_pos a]]; exact e⟩
    · by_cases b : i = k
      · exact ⟨ρ.length, by omega, by show q (rot ρ.length k ρ.length) = j; rw [show rot ρ.length k ρ.length = k by unfold rot; rw [if_neg (Nat.lt_irrefl _), if_pos rfl], ← b]; exact e⟩
      · by_cases c : i < k
        · exact ⟨i + 1, by omega, by show q (rot ρ.length k (i + 1)) = j; rw [show rot ρ.length k (i + 1) = i by unfold rot; rw [if_neg (by omega), if_neg (by omega), if_pos (by omega)]; omega]; exact e⟩
        · exact ⟨i, hi, by show q (rot ρ.length k i) = j; rw [show rot ρ.length k i = i by unfold rot; rw [if_neg a, if_neg (by omega), if_neg (by omega)]]; exact e⟩
  zero := fun i a b x hx => by
    have : ρ.length ≤ rot ρ.length k i ∧ rot ρ.length k i < n := by unfold rot; split <;> (try split) <;> (try split) <;> omega
    exact t.zero _ this.1 this.2 x hx
  all := t.all
theorem Turn.step {m : Nat} (t : Turn A n col ρ cols q d W) (hr : ρ.length < n) (hm : col < m) (h0 : rv A n (W ρ.length) col ≠ 0) :
    ∃ W', Turn A n (col + 1) (ρ ++ [q ρ.length]) (cols ++ [col]) q (rv A n (W ρ.length) col) W' ∧
      ((linesL A n m W).take ρ.length).map (fun l => clearL l (lineL A n m (W ρ.length)) col d) ++ [lineL A n m (W ρ.length)] ++ ((linesL A n m W).drop (ρ.length + 1)).map (fun l => clearL l (lineL A n m (W ρ.length)) col d) = linesL A n m W' := by
  obtain ⟨W', s', e1, e2⟩ := t.st.step hr col t.d0 h0
  refine ⟨W', ⟨s', h0, fun c hc => ?_, fun i hi => ?_, t.sur, fun i a b x hx => ?_, ?_⟩, ?_⟩
  · rcases List.mem_append.mp hc with z | z
    · exact Nat.lt_succ_of_lt (t.cl c z)
    · have : c = col := by simpa using z
      omega
  · by_cases hir : i < ρ.length
    · rw [app_getD hir]; exact t.piv i hir
    · have : i = ρ.length := by simp at hi; omega
      rw [this, app_last]
  · rw [show (ρ ++ [q ρ.length]).length = ρ.length + 1 by simp] at a
    have lin : d * rv A n (W' i) x = rv A n (W ρ.length) col * rv A n (W i) x - rv A n (W i) col * rv A n (W ρ.length) x := by
      have := rv_lin (A := A) (n := n) (w := fun k => d * W' i k) (u := W i) (v := W ρ.length) (fun k => e2 i b (by omega) k) x
      rw [← this]
      unfold rv
      rw [← ssum_mul]
      exact ssum_congr fun k _ => by grind
    refine Int.eq_of_mul_eq_mul_left t.d0 ?_
    rw [lin]
    by_cases e : x = col
    · subst e; grind
    · rw [t.zero i (by omega) b x (by omega), t.zero ρ.length (Nat.le_refl _) hr x (by omega)]; simp
  · rcases t.all with z | ⟨x, a, b⟩
    · left; rw [z, List.range_succ]
    · refine .inr ⟨x, by omega, fun z => ?_⟩
      rcases List.mem_append.mp z with z | z
      · exact b z
      · have : x = col := by simpa using z
        omega
  · unfold linesL
    rw [← List.map_take, ← List.map_drop, List.map_map, List.map_map]
    apply List.ext_getElem?
    intro i
    simp only [List.append_assoc]
    have lt : (List.map ((fun l => clearL l (lineL A n m (W ρ.length)) col d) ∘ fun i => lineL A n m (W i)) ((List.range n).take ρ.length)).length = ρ.length := by simp; omega
    by_cases h1 : i < ρ.length
    · rw [List.getElem?_append_left (by rw [lt]; exact h1), List.getElem?_map, List.getElem?_map, List.getElem?_take_of_lt h1, List.getElem?_range (by omega)]
      show some (clearL (lineL A n m (W i)) (lineL A n m (W ρ.length)) col d) = some _
      rw [line_clear hm t.d0 (e2 i (by omega) (by omega))]
    · rw [List.getElem?_append_right (by rw [lt]; omega), lt, List.getElem?_map]
      by_cases h2 : i = ρ.length
      · subst h2
        rw [Nat.sub_self, List.getElem?_range hr]
        show some (lineL A n m (W ρ.length)) = some (lineL A n m (W' ρ.length))
        rw [line_congr e1]
      · rw [List.getElem?_append_right (by simp; omega)]
        show (List.map _ ((List.range n).drop (ρ.length + 1)))[i - ρ.length - 1]? = _
        rw [List.getElem?_map, List.getElem?_drop, show ρ.length + 1 + (i - ρ.length - 1) = i by omega]
        by_cases h4 : i < n
        · rw [List.getElem?_range h4]
          show some (clearL (lineL A n m (W i)) (lineL A n m (W ρ.length)) col d) = some _
          rw [line_clear hm t.d0 (e2 i h4 h2)]
        · rw [List.getElem?_eq_none (by simpa using h4)]
          rfl
end
end Bz
namespace Bz
section
variable {A : Nat → Row} {n col : Nat} {ρ cols : List Nat} {q : Nat → Nat} {d : Int} {W : Nat → Row}
theorem Turn.back (t : Turn A n col ρ cols q d W) {k y : Nat} (hk : k < n) (hy : y < col) : d * A k y = ssum (fun p => A k (cols.getD p 0) * rv A n (W p) y) ρ.length := by
  obtain ⟨i, hi, e⟩ := t.sur k hk
  have s := t.st
  by_cases hir : i < ρ.length
  · have ek : k = ρ.getD i 0 := by rw [← e]; exact t.piv i hir
    have lr : (ρ.map A).length = ρ.length := List.length_map _
    have e1 : ssum (fun p => A k (cols.getD p 0) * rv A n (W p) y) ρ.length = ssum (fun p => ssum (fun j => (A k (cols.getD p 0) * adj (ρ.map A) cols p j) * A (ρ.getD j 0) y) ρ.length) ρ.length := ssum_congr fun p hp => by
      rw [s.rvp hp, ← ssum_mul]
      exact ssum_congr fun j _ => by grind
    have e2 : ssum (fun p => ssum (fun j => (A k (cols.getD p 0) * adj (ρ.map A) cols p j) * A (ρ.getD j 0) y) ρ.length) ρ.length = ssum (fun j => A (ρ.getD j 0) y * ssum (fun p => (ρ.map A).getD i zr (cols.getD p 0) * adj (ρ.map A) cols p j) ρ.length) ρ.length := by
      rw [ssum_swap]
      refine ssum_congr fun j _ => ?_
      rw [← ssum_mul]
      refine ssum_congr fun p _ => ?_
      rw [map_getD hir, ← ek]; grind
    rw [e1, e2]
    have pa : ∀ j, j < ρ.length → ssum (fun p => (ρ.map A).getD i zr (cols.getD p 0) * adj (ρ.map A) cols p j) ρ.length = if i = j then d else 0 := fun j hj => by
      have := PA (rows := ρ.map A) (cols := cols) (i := i) (k := j) (by rw [lr]; exact s.lc) (by rw [lr]; exact hir) (by rw [lr]; exact hj)
      rw [lr, s.det] at this; exact this
    rw [ssum_one hir fun j hj hne => by rw [pa j hj, if_neg (Ne.symm hne)]; simp]
    rw [pa i hir, if_pos rfl, ek]; grind
  · have := s.rvn (by omega) hi y
    rw [t.zero i (by omega) hi y hy, e] at this
    omega
/-- a free column: something that isn't 0 comes to 0 in each row -/
theorem Turn.kernel (t : Turn A n col ρ cols q d W) {x : Nat} (hx : x < col) (hf : x ∉ cols) : ∃ z : Row, z x = -d ∧ ∀ k, k < n → ssum (fun y => A k y * z y) col = 0 := by
  have s := t.st
  have cm : ∀ i, i < ρ.length → cols.getD i 0 ∈ cols := fun i hi => by
    have hi' : i < cols.length := by rw [s.lc]; exact hi
    rw [List.getD_eq_getElem?_getD, List.getElem?_eq_getElem hi']; exact List.getElem_mem hi'
  refine ⟨fun y => ssum (fun i => rv A n (W i) x * ind (cols.getD i 0) y) ρ.length - d * ind x y, ?_, fun k hk => ?_⟩
  · have e1 : ssum (fun i => rv A n (W i) x * ind (cols.getD i 0) x) ρ.length = 0 := ssum_zero fun i hi => by
      unfold ind
      rw [if_neg fun z => hf (by rw [← z]; exact cm i hi)]; simp
    show ssum (fun i => rv A n (W i) x * ind (cols.getD i 0) x) ρ.length - d * ind x x = -d
    rw [e1]; unfold ind; rw [if_pos rfl]; omega
  · have gen : ∀ f : Row, ssum (fun y => f y * (ssum (fun i => rv A n (W i) x * ind (cols.getD i 0) y) ρ.length - d * ind x y)) col = ssum (fun i => rv A n (W i) x * f (cols.getD i 0)) ρ.length - d * f x := fun f => by
      have e1 : ssum (fun y => f y * (ssum (fun i => rv A n (W i) x * ind (cols.getD i 0) y) ρ.length - d * ind x y)) col = ssum (fun y => ssum (fun i => rv A n (W i) x * (ind (cols.getD i 0) y * f y)) ρ.length + (-d) * (ind x y * f y)) col := ssum_congr fun y _ => by
        have : ssum (fun i => rv A n (W i) x * (ind (cols.getD i 0) y * f y)) ρ.length = f y * ssum (fun i => rv A n (W i) x * ind (cols.getD i 0) y) ρ.length := by
          rw [← ssum_mul]
          exact ssum_congr fun i _ => by grind
        rw [this]; grind
      rw [e1, ssum_add, ssum_mul, ind_sum (f := f) hx, ssum_swap]
      have e2 : ssum (fun i => ssum (fun y => rv A n (W i) x * (ind (cols.getD i 0) y * f y)) col) ρ.length = ssum (fun i => rv A n (W i) x * f (cols.getD i 0)) ρ.length := ssum_congr fun i hi => by
        rw [ssum_mul, ind_sum (f := f) (t.cl _ (cm i hi))]
      rw [e2]; grind
    refine Int.eq_of_mul_eq_mul_left t.d0 ?_
    rw [Int.mul_zero, gen (A k), Int.mul_sub]
    have b1 := t.back hk hx
    have e3 : ssum (fun i => rv A n (W i) x * A k (cols.getD i 0)) ρ.length = d * A k x := by
      rw [b1]
      exact ssum_congr fun i _ => Int.mul_comm _ _
    rw [e3]; grind
def Sol (A : Nat → Row) (n u : Nat) (z : Row) (N : Int) : Prop := ∀ k, k < n → ssum (fun x => A k x * z x) u = N * A k u
theorem Sol.line {u : Nat} {z : Row} {N : Int} (h : Sol A n u z N) (w : Row) : ssum (fun x => rv A n w x * z x) u = N * rv A n w u := by
  unfold rv
  have e1 : ssum (fun x => ssum (fun k => w k * A k x) n * z x) u = ssum (fun x => ssum (fun k => w k * (A k x * z x)) n) u := ssum_congr fun x _ => by
    rw [Int.mul_comm, ← ssum_mul]
    exact ssum_congr fun k _ => by grind
  rw [e1, ssum_swap, ← ssum_mul]
  refine ssum_congr fun k hk => ?_
  rw [ssum_mul, h k hk]; grind
theorem Turn.rest (t : Turn A n col ρ cols q d W) {z : Row} {N : Int} (hs : Sol A n col z N) (hN : N ≠ 0) {i : Nat} (h1 : ρ.length ≤ i) (hi : i < n) : rv A n (W i) col = 0 := by
  have := hs.line (W i)
  rw [ssum_zero fun x hx => by rw [t.zero i h1 hi x hx]; simp] at this
  rcases Int.mul_eq_zero.mp this.symm with e | e
  · exact absurd e hN
  · exact e
theorem Turn.told (t : Turn A n col ρ cols q d W) (hc : cols = List.range col) {z : Row} {N : Int} (hs : Sol A n col z N) {i : Nat} (hi : i < col) : d * z i = N * rv A n (W i) col := by
  have s := t.st
  have hl : ρ.length = col := by rw [← s.lc, hc, List.length_range]
  have g : ∀ p, p < col → cols.getD p 0 = p := fun p hp => by rw [hc, List.getD_eq_getElem?_getD, List.getElem?_range hp]; rfl
  rw [← hs.line (W i)]
  rw [ssum_one hi fun x hx hne => by
    have := s.one i x (by rw [hl]; exact hi) (by rw [hl]; exact hx)
    rw [g x hx, if_neg (Ne.symm hne)] at this
    rw [this]; simp]
  have := s.one i i (by rw [hl]; exact hi) (by rw [hl]; exact hi)
  rw [g i hi, if_pos rfl] at this
  rw [this]
end
end Bz

set_option Elab.async false
set_option linter.all false
set_option maxRecDepth 100000
set_option maxHeartbeats 4000000
seal L2.JE L2.JT L2.JW L2.JA L2.JS L2.JSs L2.JI L2.JK
namespace Pg
open PySem L2
def top (i : Nat) : Stmt := PySem.Challenge.pw_chanceduel_k11_the_one_answer.main.body.getD i (.Pass ⟨0, 0, 0, 0⟩)
abbrev sCommonDivisor : Stmt := top 6
abbrev sFraction : Stmt := top 7
abbrev sWithWeights : Stmt := top 9
abbrev sNumberOfHead : Stmt := top 10
abbrev sMovedAhead : Stmt := top 11
abbrev sClearedLine : Stmt := top 12
abbrev sCleared : Stmt := top 13
abbrev sQuotients : Stmt := top 14
abbrev sStillOf : Stmt := top 15
abbrev sAnswerOf : Stmt := top 16
abbrev sLawAt : Stmt := top 18
abbrev sLawLowest : Stmt := top 19
abbrev sLawWide : Stmt := top 20
abbrev sLawCell : Stmt := top 21
abbrev sLawNumbers : Stmt := top 22
abbrev sLawOrder : Stmt := top 23
abbrev sLawCorner : Stmt := top 24
abbrev sLawRows : Stmt := top 25
abbrev sLawWithSum : Stmt := top 26
abbrev sLawTold : Stmt := top 27
abbrev sLaw : Stmt := top 28
end Pg
namespace Pg
open PySem L2 Fr0 Tx
abbrev VB : List Value := [.type "ValueError", .type "Exception", .type "BaseException", .type "object"]
structure Ev (K : PySem.W.Frag) (mg : Str → Option Value) (CN : Addr) : Prop where
  n_len : mg "len" = none
  n_abs : mg "abs" = none
  n_isinstance : mg "isinstance" = none
  n_int : mg "int" = none
  n_bool : mg "bool" = none
  n_str : mg "str" = none
  n_tuple : mg "tuple" = none
  n_list : mg "list" = none
  n_range : mg "range" = none
  n_enumerate : mg "enumerate" = none
  n_any : mg "any" = none
  n_all : mg "all" = none
  n_sum : mg "sum" = none
  n_zip : mg "zip" = none
  n_max : mg "max" = none
  n_min : mg "min" = none
  ib : PySem.W.kitOne K (.type "int") (.type "bool") = some false
  kis : PySem.W.kitOne K (.type "int") (.type "str") = some false
  kts : PySem.W.kitOne K (.type "tuple") (.type "str") = some false
  kti : PySem.W.kitOne K (.type "tuple") (.type "int") = some false
  kls : PySem.W.kitOne K (.type "list") (.type "str") = some false
  kli : PySem.W.kitOne K (.type "list") (.type "int") = some false
  ktl : PySem.W.kitOne K (.type "tuple") (.type "list") = some false
  klt : PySem.W.kitOne K (.type "list") (.type "tuple") = some false
  mNoNumber : mg "NoNumber" = some (.ref CN)
  eNoNumber : ExcCls K CN VB "ValueError.__new__"
theorem k_self {K : PySem.W.Frag} {T : String} : PySem.W.kitOne K (.type T) (.type T) = some true := by
  unfold PySem.W.kitOne
  rw [if_pos (beq_self_eq_true _)]
end Pg

namespace Pg
open PySem L2 Fr0 Tx
section
variable {P : Program} {w : World} {K : PySem.W.Frag} {mg : Str → Option Value} {base : Heap} {CN : Addr}
def TGcd : DF := fun ds M q _ => match ds with
  | [.int a, .int b] => q (.int (g a b)) M
  | _ => False
theorem scCommonDivisor : FnScope ["one", "other", "great", "small", "rest"] ["one", "other"] (defScope sCommonDivisor) := ⟨rfl, rfl, rfl, by decide +kernel, rfl, by decide +kernel, by decide +kernel⟩
theorem ok_CommonDivisor {f : Addr} {fd : FuncData} (F : Fun K "common_divisor" "common_divisor" sCommonDivisor f fd) (E : Ev K mg CN)  : FnOk P w K mg base (CX1 P w) 1 f fd ["one", "other"] (spD K TGcd) := by
  refine F.okD scCommonDivisor (fun ds M q x h => ?_) (fun cdv A outer s H E' hr => ⟨_, (jss_cons (js_set (i := 2) scCommonDivisor.nd rfl (Or.inl rfl) (j_abs E.n_abs (ja_cons (jv 0) ja_nil (hs := starN))))
      (jss_cons (js_set (i := 3) scCommonDivisor.nd rfl (Or.inl rfl) (j_abs E.n_abs (ja_cons (jv 1) ja_nil (hs := starN))))
      (jss_cons (js_while (jt_ne hr (jv 3) jint) (jss_cons (js_set (i := 4) scCommonDivisor.nd rfl (Or.inl rfl) (j_mod (jv 2) (jv 3)))
      (jss_cons (js_set (i := 2) scCommonDivisor.nd rfl (Or.inl rfl) (jv 3))
      (jss_one (js_set (i := 3) scCommonDivisor.nd rfl (Or.inl rfl) (jv 4))))))
      (jss_one (js_ret (jv 2)))))), fun ds M q x h => ?_⟩)
  · unfold TGcd at h; split at h; · rfl
    · exact h.elim
  · unfold TGcd at h
    split at h
    · rename_i a b
      refine ⟨fun m ρ M' => M' = M ∧ ∃ (x y : Int) (r : Option Dt), ρ = [some (.int a), some (.int b), some (.int x), some (.int y), r] ∧ 0 ≤ x ∧ 0 ≤ y ∧ g x y = g a b ∧ m = y.toNat, ⟨_, rfl, _, _, _, rfl, by split <;> omega, by split <;> omega, g_abs a b, rfl⟩, ?_⟩
      rintro m ρ M' ⟨rfl, x, y, r, rfl, hx, hy, e, rfl⟩
      refine ⟨fun hb => ?_, fun hb => ?_⟩
      · have hy0 : y ≠ 0 := by simpa using hb
        refine ⟨_, fun ρ' M2 h2 => h2, ?_⟩
        refine ⟨by omega, (x % y).toNat, ?_, rfl, y, x % y, _, rfl, hy, Int.emod_nonneg _ hy0, ?_, rfl⟩
        · have := Int.emod_lt_of_pos x (show 0 < y by omega)
          have := Int.emod_nonneg x hy0
          omega
        · rw [← Int.fmod_eq_emod_of_nonneg x hy, g_step (by omega)]; exact e
      · have hy0 : y = 0 := by simpa using hb
        subst hy0
        rw [g_zero hx] at e
        subst e
        exact h
    · exact h.elim
end
end Pg

namespace Pg
open PySem L2 Fr0 Tx
theorem bg {n : Int} {k : Nat} (h : n.natAbs < 2 ^ k) (hk : k ≤ 8000 := by decide) : Big n := Nat.lt_of_lt_of_le h (Nat.pow_le_pow_right (by decide) hk)
end Pg
namespace Pg
open PySem L2 Fr0 Tx
section
variable {P : Program} {w : World} {K : PySem.W.Frag} {mg : Str → Option Value} {base : Heap} {CN : Addr}
theorem big_of_le {i j : Int} (h : Big j) (l : i.natAbs ≤ j.natAbs) : Big i := Nat.lt_of_le_of_lt l h
def TFrac (CN : Addr) : DF := fun ds M q x => match ds with
  | [.int t, .int b] => Big b ∧ (b = 0 → x CN [] M) ∧ (b ≠ 0 → q (.tup [.int (frac t b).1, .int (frac t b).2]) M)
  | _ => False
theorem scFraction : FnScope ["top", "bottom", "divisor"] ["top", "bottom"] (defScope sFraction) := ⟨rfl, rfl, rfl, by decide +kernel, rfl, by decide +kernel, by decide +kernel⟩
theorem ok_Fraction {f : Addr} {fd : FuncData} (F : Fun K "fraction" "fraction" sFraction f fd) (E : Ev K mg CN) {fCommonDivisor : Addr} {dCommonDivisor : FuncData} (c_CommonDivisor : CalD P w K mg base 1 "common_divisor" ["one", "other"] TGcd fCommonDivisor dCommonDivisor) : FnOk P w K mg base (CX1 P w) 2 f fd ["top", "bottom"] (spD K (TFrac CN)) := by
  refine F.okD scFraction (fun ds M q x h => ?_) (fun cdv A outer s H E' hr => ⟨_, (jss_cons (js_if (jt_eq hr (jv 1) jint) (jss_one (js_raise raises1 PySem.F.excBase_ValueError E.eNoNumber E.mNoNumber (ja_cons jstr ja_nil (hs := starC)))) jss_nil)
      (jss_cons (js_set (i := 2) scFraction.nd rfl (Or.inl rfl) (j_fn c_CommonDivisor hr passes1 (ja_cons (jv 0) (ja_cons (jv 1) ja_nil (hs := starN)) (hs := starN))))
      (jss_cons (js_cut (js_if (jt_lt (jv 1) jint) (jss_one (js_set (i := 2) scFraction.nd rfl (Or.inl rfl) (j_neg (jv 2)))) jss_nil))
      (jss_one (js_ret (j_tup (ja_cons (j_divN (jv 0) (jv 2)) (ja_cons (j_divN (jv 1) (jv 2)) ja_nil (hs := starB)) (hs := starB)))))))), fun ds M q x h => ?_⟩)
  · unfold TFrac at h; split at h; · rfl
    · exact h.elim
  · unfold TFrac at h
    split at h
    · rename_i t b
      obtain ⟨hB, h0, h1⟩ := h
      refine ⟨fun hb => ?_, fun hb => ?_⟩
      · exact ⟨by decide, h0 (by simpa using hb)⟩
      · have hb0 : b ≠ 0 := by simpa using hb
        refine ⟨fun ρ M' => M' = M ∧ ρ = [some (.int t), some (.int b), some (.int (dv t b))], ⟨fun hn => ?_, fun hn => ?_⟩, ?_⟩
        · have hn' : b < 0 := by simpa using hn
          exact ⟨rfl, by unfold dv; rw [if_pos hn']; rfl⟩
        · have hn' : ¬ b < 0 := by simpa using hn
          exact ⟨rfl, by unfold dv; rw [if_neg hn']; rfl⟩
        · rintro ρ M' ⟨rfl, rfl⟩
          have hd := dv_ne (t := t) hb0
          have hbd : Big (dv t b) := big_of_le hB (dv_natAbs_le hb0)
          exact ⟨⟨hd, hbd⟩, ⟨hd, hbd⟩, (by show 2 ≤ sizeLine; decide), h1 hb0⟩
    · exact h.elim
end
end Pg


set_option Elab.async false
set_option linter.all false
set_option maxRecDepth 100000
set_option maxHeartbeats 4000000
namespace Pg
open PySem L2 Fr0 Tx
theorem prd_self {α : Type} (f : α → Dt) : ∀ (xs ys : List α), (∀ x ∈ xs, x ∈ ys) → Paired (fun x a => x = f a ∧ a ∈ ys) (xs.map f) xs
  | [], _, _ => .nil
  | x :: xs, ys, h => .cons ⟨rfl, h x List.mem_cons_self⟩ (prd_self f xs ys fun y hy => h y (List.mem_cons_of_mem _ hy))
theorem fz_loc {M : Ms} {q : DQ} {ds : List Dt} (u : Dt.underL M.length ds) (h : q (.lst ds) M) : frzU M q (.loc M.length) (M ++ [.lst ds]) := fz_new (.newL (Nat.le_refl _) (by rw [Nat.sub_self]; rfl) (FrzL.old u)) h
theorem forD_map {g : Dt → En → (En → Prop) → Prop} {tb : DS} {Dn : DEnds} (J : List Dt → En → Ms → Prop)
    (step : ∀ x xs ρ M, J (x :: xs) ρ M → (∀ ρ M, J xs ρ M → forD g tb Dn xs ρ M) → g x ρ fun ρ' => tb { Dn with nx := forD g tb Dn xs, ct := forD g tb Dn xs, bk := Dn.nx } ρ' M)
    (fin : ∀ ρ M, J [] ρ M → Dn.nx ρ M) : ∀ (xs : List Dt) (ρ : En) (M : Ms), J xs ρ M → forD g tb Dn xs ρ M
  | [], ρ, M, h => fin _ _ h
  | x :: xs, ρ, M, h => step x xs ρ M h fun ρ' M' h' => forD_map J step fin xs ρ' M' h'
theorem rngD_cons {lo : Int} {n : Nat} {x : Dt} {xs : List Dt} (h : x :: xs = rngD lo n) : ∃ m, n = m + 1 ∧ x = .int lo ∧ xs = rngD (lo + 1) m := by
  cases n with
  | zero => exact nomatch h
  | succ m =>
    unfold rngD at h
    rw [List.range_succ_eq_map, List.map_cons, List.map_map] at h
    cases h
    refine ⟨m, rfl, by simp, ?_⟩
    unfold rngD
    apply List.map_congr_left
    intro k _
    show Dt.int (lo + ((k + 1 : Nat) : Int)) = Dt.int (lo + 1 + (k : Int))
    congr 1
    omega
theorem rngD_mem {lo : Int} {n : Nat} {x : Dt} (h : x ∈ rngD lo n) : ∃ k : Nat, k < n ∧ x = .int (lo + k) := by
  unfold rngD at h
  obtain ⟨k, hk, rfl⟩ := List.mem_map.mp h
  exact ⟨k, List.mem_range.mp hk, rfl⟩
theorem rngD_len {lo : Int} {n : Nat} : (rngD lo n).length = n := by unfold rngD; simp
theorem ix_nat {n p : Nat} (h : p < n) : ixN n (p : Int) = some p := by
  unfold ixN
  rw [if_pos (by omega), if_pos (by omega), Int.toNat_natCast]
theorem ints_un {n : Nat} : ∀ (xs : List Int), Dt.underL n (xs.map Dt.int)
  | [] => trivial
  | _ :: xs => ⟨trivial, ints_un xs⟩
theorem int_at {xs : List Int} {j : Nat} (h : j < xs.length) : atI (xs.map Dt.int) (j : Int) = some (.int xs[j]) := atI_nat (by rw [List.getElem?_map, List.getElem?_eq_getElem h]; rfl)
theorem lstR_seq {M : Ms} {d : Dt} {xs : List Dt} (h : lstR M d = some xs) : seqD M d = some xs := by
  cases d <;> first | exact h | cases h
theorem lstR_kind {M : Ms} {d : Dt} {xs : List Dt} (h : lstR M d = some xs) : kindM M d = some (.type "list") := by
  cases d with
  | lst ds => rfl
  | loc k =>
    have h : (match M[k]? with | some (.lst xs) => some xs | _ => none) = some xs := h
    show (match M[k]? with | some (.lst _) => some (Value.type "list") | _ => none) = _
    split at h
    · rfl
    · cases h
  | _ => cases h
theorem at_new {M : Ms} {o : MO} : (M ++ [o])[M.length]? = some o := by simp
theorem lstR_at {M : Ms} {k : Nat} {xs : List Dt} (h : M[k]? = some (MO.lst xs)) : lstR M (.loc k) = some xs := by
  show (match M[k]? with | some (MO.lst xs) => some xs | _ => none) = some xs
  rw [h]
theorem compK_pair {α : Type} {te : DE} {cs : En} {ok : Ms → Prop} {F : Dt → α → Prop} {f : α → Dt} {M : Ms} {k : List Dt → Ms → Prop} (ho : ok M) (ht : ∀ x a, F x a → ∀ q : DQ, q (f a) M → te (some x :: cs) M q noX) : ∀ {xs : List Dt} {as : List α} {acc : List Dt}, Paired F xs as → k (acc ++ as.map f) M → compK te cs ok xs acc M k
  | _, _, acc, .nil, h => ⟨ho, by simpa using h⟩
  | _, _, acc, .cons r t, h => ⟨ho, ht _ _ r _ (compK_pair ho ht t (by simpa using h))⟩
theorem set_new {M : Ms} {a c : MO} : (M ++ [a]).set M.length c = M ++ [c] := by simp [List.set_append]
theorem at_mid {M E : Ms} {o : MO} : (M ++ o :: E)[M.length]? = some o := by simp
theorem set_mid {M E : Ms} {o c : MO} : (M ++ o :: E).set M.length c = M ++ c :: E := by simp [List.set_append]
abbrev ilD (l : List Int) : Dt := .lst (l.map Dt.int)
abbrev mlD (ls : List (List Int)) : Dt := .lst (ls.map ilD)
theorem ml_at {ls : List (List Int)} {j : Nat} (h : j < ls.length) : atI (ls.map ilD) (j : Int) = some (ilD ls[j]) := atI_nat (by rw [List.getElem?_map, List.getElem?_eq_getElem h]; rfl)
theorem mls_un {n : Nat} : ∀ (ls : List (List Int)), Dt.underL n (ls.map ilD)
  | [] => trivial
  | l :: ls => ⟨ints_un l, mls_un ls⟩
abbrev unitL := Bz.unitL
theorem unit_set {n i : Nat} (h : i < n) : ((List.replicate (n : Int).toNat [Dt.int 0]).flatten).set i (Dt.int 1) = (unitL n i).map Dt.int := by
  have e : (List.replicate (n : Int).toNat [Dt.int 0]).flatten = List.replicate n (Dt.int 0) := by
    rw [show ((n : Int)).toNat = n by omega]
    clear h
    induction n with
    | zero => rfl
    | succ n ih => rw [List.replicate_succ, List.flatten_cons, ih]; rfl
  rw [e]
  unfold unitL Bz.unitL
  apply List.ext_getElem
  · simp
  · intro j h1 h2
    rw [List.getElem_set]
    simp only [List.getElem_replicate, List.getElem_map, List.getElem_range, Bz.ind]
    split <;> rfl
section
variable {P : Program} {w : World} {K : PySem.W.Frag} {mg : Str → Option Value} {base : Heap} {CN : Addr}
def TWith : DF := fun as M q _ => ∃ rows : List (List Int), as = [mlD rows] ∧ rows.length ≤ 12 ∧ (∀ r ∈ rows, r.length ≤ 13) ∧ ∀ E, q (.loc M.length) (M ++ MO.lst (((List.range rows.length).map fun i => rows.getD i [] ++ unitL rows.length i).map ilD) :: E)
theorem scWithWeights : FnScope ["rows", "told", "number", "row", "weights"] ["rows"] (defScope sWithWeights) := ⟨rfl, rfl, rfl, by decide +kernel, rfl, by decide +kernel, by decide +kernel⟩
theorem ok_WithWeights {f : Addr} {fd : FuncData} (F : Fun K "with_weights" "with_weights" sWithWeights f fd) (E : Ev K mg CN)  : FnOk P w K mg base (CX1 P w) 1 f fd ["rows"] (spD K TWith) := by
  refine F.okD scWithWeights (fun ds M q x h => ?_) (fun cdv A outer s H E' hr => ⟨_, (jss_cons (js_set (i := 1) scWithWeights.nd rfl (Or.inl rfl) (j_lstM ja_nil))
      (jss_cons (js_forK (jk_enum E.n_enumerate (ja_cons (jv 0) ja_nil (hs := starN))) (pg_tup rfl (pgs_cons (pg_name (i := 2) scWithWeights.nd rfl (Or.inl rfl)) (pgs_cons (pg_name (i := 3) scWithWeights.nd rfl (Or.inl rfl)) pgs_nil))) gd_two (jss_cons (js_set (i := 4) scWithWeights.nd rfl (Or.inl rfl) (j_repM (j_const 3 (d := .lst [.int 0]) (by rfl)) (j_len E.n_len (ja_cons (jv 0) ja_nil (hs := starN)))))
      (jss_cons (js_setix (jv 4) (jv 2) jint)
      (jss_one (js_expr (j_append (jv 1) (ja_cons (j_catL (jv 3) (jv 4)) ja_nil (hs := starB))))))))
      (jss_one (js_ret (jv 1))))), fun ds M q x h => ?_⟩)
  · obtain ⟨rows, rfl, _⟩ := h; rfl
  · obtain ⟨rows, rfl, r12, r13, h⟩ := h
    refine ⟨by decide, ?_⟩
    refine ⟨mlD rows, rows.map ilD, fun _ => True, rfl, rfl, ?_⟩
    refine forK_map (fun xs ρ M' => ∃ (k : Nat) (rest : List (List Int)) (E : Ms) (o1 o2 o3 : Option Dt), xs = enumD k (rest.map ilD) ∧ rows.drop k = rest ∧ k ≤ rows.length ∧ M' = M ++ MO.lst (((List.range k).map fun i => rows.getD i [] ++ unitL rows.length i).map ilD) :: E ∧ ρ = [some (mlD rows), some (.loc M.length), o1, o2, o3]) (fun xs ρ M' hj => trivial) (fun x xs ρ M' hj nxt => ?_) (fun ρ M' hj => ?_) _ _ _ ⟨0, rows, [], none, none, none, rfl, rfl, Nat.zero_le _, rfl, rfl⟩
    · obtain ⟨k, rest, E, o1, o2, o3, ex, hd, hk, rfl, rfl⟩ := hj
      cases rest with
      | nil => cases ex
      | cons r rest =>
        cases ex
        have hk' : k < rows.length := by
          rcases Nat.lt_or_ge k rows.length with z | z
          · exact z
          · rw [List.drop_of_length_le z] at hd; cases hd
        have rk : rows[k] = r := by
          have := List.drop_eq_getElem_cons hk'
          rw [hd] at this
          exact (List.cons.inj this).1.symm
        have rg : rows.getD k [] = r := by rw [List.getD_eq_getElem?_getD, List.getElem?_eq_getElem hk', rk]; rfl
        have hr13 := r13 r (by rw [← rk]; exact List.getElem_mem hk')
        have hd' : rows.drop (k + 1) = rest := by
          have := List.drop_eq_getElem_cons hk'
          rw [hd] at this
          exact (List.cons.inj this).2.symm
        dsimp only [g2]
        dsimp only [gN, sFor, iRng, dFrz, dFz, sSeq, sNext, sIf, sRet, sSet, sDrop, sRaise, dCall, dFn, dOp, dUn, dVar, dC, aNil, aCons, dTup, dLst, tstD, andT, orT, notT, dAnd, dOr, dNot, dIf, dSM, startD, List.map_cons, List.map_nil, List.length_cons, List.length_nil, List.cons_append, List.nil_append, List.replicate, List.getElem?_cons_zero, List.getElem?_cons_succ, List.set_cons_zero, List.set_cons_succ, Nat.reduceSub, Nat.reduceAdd, Nat.zero_add]
        refine (fLen_seq (d := mlD rows) (xs := rows.map ilD) rfl ?_ : fLen [mlD rows] _ _)
        rw [List.length_map]
        refine ⟨[.int 0], rows.length, rfl, rfl, by omega, by omega, ?_, ?_⟩
        · show 1 * ((rows.length : Int)).toNat ≤ sizeLine
          exact Nat.le_trans (show _ ≤ 12 by omega) (by decide)
        generalize hM2 : M ++ MO.lst (((List.range k).map fun i => rows.getD i [] ++ unitL rows.length i).map ilD) :: E = M2
        refine ⟨M2.length, k, _, k, rfl, rfl, at_new, ?_, ?_⟩
        · have : ((List.replicate (rows.length : Int).toNat [Dt.int 0]).flatten).length = rows.length := by
            have := congrArg List.length (unit_set hk')
            rw [List.length_set, List.length_map] at this
            rw [this]; unfold unitL Bz.unitL; simp
          rw [this]; exact ix_nat hk'
        rw [set_new, unit_set hk']
        subst hM2
        have eM : (M ++ MO.lst (((List.range k).map fun i => rows.getD i [] ++ unitL rows.length i).map ilD) :: E) ++ [MO.lst ((unitL rows.length k).map Dt.int)] = M ++ MO.lst (((List.range k).map fun i => rows.getD i [] ++ unitL rows.length i).map ilD) :: (E ++ [MO.lst ((unitL rows.length k).map Dt.int)]) := by simp
        have at3 : ((M ++ MO.lst (((List.range k).map fun i => rows.getD i [] ++ unitL rows.length i).map ilD) :: E) ++ [MO.lst ((unitL rows.length k).map Dt.int)])[M.length]? = some (.lst (((List.range k).map fun i => rows.getD i [] ++ unitL rows.length i).map ilD)) := by rw [eM]; exact at_mid
        refine ⟨⟨M.length, _, rfl, at3⟩, r.map Dt.int, (unitL rows.length k).map Dt.int, rfl, lstR_at at_new, ?_, M.length, _, _, rfl, rfl, at3, ?_, ?_⟩
        · rw [List.length_map, List.length_map]
          unfold unitL Bz.unitL
          rw [List.length_map, List.length_range]
          exact Nat.le_trans (show _ ≤ 30 by omega) (by decide)
        · rw [List.length_map, List.length_map, List.length_range]
          exact Nat.lt_of_le_of_lt (show k ≤ 12 by omega) (by decide)
        rw [eM, set_mid]
        refine nxt _ _ ⟨k + 1, rest, E ++ [MO.lst ((unitL rows.length k).map Dt.int)], _, _, _, rfl, hd', hk', ?_, rfl⟩
        rw [List.range_succ, List.map_append, List.map_append]
        simp only [List.map_cons, List.map_nil]
        rw [rg, ← List.map_append]
    · obtain ⟨k, rest, E, o1, o2, o3, ex, hd, hk, rfl, rfl⟩ := hj
      cases rest with
      | cons r rest => cases ex
      | nil =>
        have : k = rows.length := by
          have := congrArg List.length hd
          rw [List.length_drop] at this
          simp at this; omega
        subst this
        exact h E
def TNoh : DF := fun as M q _ => ∃ (ls : List (List Int)) (f c : Nat), as = [mlD ls, .int (f : Int), .int (c : Int)] ∧ f ≤ ls.length ∧ ls.length ≤ 12 ∧ (∀ l ∈ ls, c < l.length) ∧
  ((∀ (k : Nat), f ≤ k → k < ls.length → (ls.getD k []).getD c 0 = 0) → q .non M) ∧
  (∀ (k : Nat), f ≤ k → k < ls.length → (ls.getD k []).getD c 0 ≠ 0 → q (.int (k : Int)) M)
theorem scNumberOfHead : FnScope ["lines", "first", "column", "number"] ["lines", "first", "column"] (defScope sNumberOfHead) := ⟨rfl, rfl, rfl, by decide +kernel, rfl, by decide +kernel, by decide +kernel⟩
theorem ok_NumberOfHead {f : Addr} {fd : FuncData} (F : Fun K "number_of_head" "number_of_head" sNumberOfHead f fd) (E : Ev K mg CN)  : FnOk P w K mg base (CX1 P w) 1 f fd ["lines", "first", "column"] (spD K TNoh) := by
  refine F.okD scNumberOfHead (fun ds M q x h => ?_) (fun cdv A outer s H E' hr => ⟨_, (jss_cons (js_for (ji_range2 E.n_range (ja_cons (jv 1) (ja_cons (j_len E.n_len (ja_cons (jv 0) ja_nil (hs := starN))) ja_nil (hs := starF)) (hs := starN))) (pg_name (i := 3) scNumberOfHead.nd rfl (Or.inl rfl)) gd_name (jss_one (js_if (jt_ne hr (j_ix (j_ix (jv 0) (jv 3)) (jv 2)) jint) (jss_one (js_ret (jv 3))) jss_nil)))
      (jss_one (js_ret jnon))), fun ds M q x h => ?_⟩)
  · obtain ⟨ls, f, c, rfl, _⟩ := h; rfl
  · obtain ⟨ls, f, c, rfl, hf, l12, hc, h1, h2⟩ := h
    dsimp only [gN, sFor, iRng, dFrz, dFz, sSeq, sNext, sIf, sRet, sSet, sDrop, sRaise, dCall, dFn, dOp, dUn, dVar, dC, aNil, aCons, dTup, dLst, tstD, andT, orT, notT, dAnd, dOr, dNot, dIf, dSM, startD, List.map_cons, List.map_nil, List.length_cons, List.length_nil, List.cons_append, List.nil_append, List.replicate, List.getElem?_cons_zero, List.getElem?_cons_succ, List.set_cons_zero, List.set_cons_succ, Nat.reduceSub, Nat.reduceAdd, Nat.zero_add]
    dsimp only [iRng2D]
    dsimp only [gN, sFor, iRng, dFrz, dFz, sSeq, sNext, sIf, sRet, sSet, sDrop, sRaise, dCall, dFn, dOp, dUn, dVar, dC, aNil, aCons, dTup, dLst, tstD, andT, orT, notT, dAnd, dOr, dNot, dIf, dSM, startD, List.map_cons, List.map_nil, List.length_cons, List.length_nil, List.cons_append, List.nil_append, List.replicate, List.getElem?_cons_zero, List.getElem?_cons_succ, List.set_cons_zero, List.set_cons_succ, Nat.reduceSub, Nat.reduceAdd, Nat.zero_add]
    refine (fLen_seq (d := mlD ls) (xs := ls.map ilD) rfl ?_ : fLen [mlD ls] _ _)
    rw [List.length_map]
    refine ⟨⟨by omega, by omega, by omega, by omega⟩, ?_⟩
    refine forD_map (fun zs ρ M' => M' = M ∧ ∃ (n k : Nat) (o : Option Dt), zs = rngD k n ∧ f ≤ k ∧ k + n = ls.length ∧ (∀ j, f ≤ j → j < k → (ls.getD j []).getD c 0 = 0) ∧ ρ = [some (mlD ls), some (.int (f : Int)), some (.int (c : Int)), o]) (fun x zs ρ M' hj nxt => ?_) (fun ρ M' hj => ?_) _ _ _ ⟨rfl, ls.length - f, f, none, ?_, Nat.le_refl _, by omega, fun j a b => absurd a (by omega), rfl⟩
    · obtain ⟨rfl, n, k, o, ex, hk, hn, hz, rfl⟩ := hj
      obtain ⟨m, rfl, rfl, rfl⟩ := rngD_cons ex
      have kl : k < ls.length := by omega
      have hl := hc _ (List.getElem_mem kl)
      have e1 : (ls.getD k []).getD c 0 = (ls[k])[c] := by
        rw [List.getD_eq_getElem?_getD, List.getD_eq_getElem?_getD, List.getElem?_eq_getElem kl]
        show ((ls[k])[c]?).getD 0 = _
        rw [List.getElem?_eq_getElem hl]; rfl
      dsimp only [gN, sFor, iRng, dFrz, dFz, sSeq, sNext, sIf, sRet, sSet, sDrop, sRaise, dCall, dFn, dOp, dUn, dVar, dC, aNil, aCons, dTup, dLst, tstD, andT, orT, notT, dAnd, dOr, dNot, dIf, dSM, startD, List.map_cons, List.map_nil, List.length_cons, List.length_nil, List.cons_append, List.nil_append, List.replicate, List.getElem?_cons_zero, List.getElem?_cons_succ, List.set_cons_zero, List.set_cons_succ, Nat.reduceSub, Nat.reduceAdd, Nat.zero_add]
      refine (fIx_seq (d := mlD ls) rfl (ml_at kl) ?_ : fIx (mlD ls) (.int (k : Int)) _ _)
      refine (fIx_seq (d := ilD ls[k]) rfl (int_at hl) ?_ : fIx (ilD ls[k]) (.int (c : Int)) _ _)
      refine ⟨fun z => ?_, fun z => ?_⟩
      · have z : (!decide ((ls[k])[c] = 0)) = true := z
        refine h2 k hk kl ?_
        rw [e1]
        intro y
        rw [decide_eq_true y] at z; exact nomatch z
      · have z : (!decide ((ls[k])[c] = 0)) = false := z
        have z0 : (ls[k])[c] = 0 := by
          rcases Decidable.em ((ls[k])[c] = 0) with y | y
          · exact y
          · rw [decide_eq_false y] at z; exact nomatch z
        refine nxt _ _ ⟨rfl, m, k + 1, _, by simp, by omega, by omega, fun j a b => ?_, rfl⟩
        by_cases e : j = k
        · rw [e, e1]; exact z0
        · exact hz j a (by omega)
    · obtain ⟨rfl, n, k, o, ex, hk, hn, hz, rfl⟩ := hj
      have hn0 : n = 0 := by
        have := congrArg List.length ex
        unfold rngD at this
        simpa using this.symm
      exact h1 fun j a b => hz j a (by omega)
    · rw [show ((ls.length : Int) - (f : Int)).toNat = ls.length - f by omega]
abbrev movedL := Bz.movedL
def TMoved : DF := fun as M q _ => ∃ (ls : List (List Int)) (f k : Nat), as = [mlD ls, .int (f : Int), .int (k : Int)] ∧ f ≤ k ∧ k < ls.length ∧ ls.length ≤ 12 ∧ q (mlD (movedL ls f k)) M
theorem scMovedAhead : FnScope ["lines", "first", "number"] ["lines", "first", "number"] (defScope sMovedAhead) := ⟨rfl, rfl, rfl, by decide +kernel, rfl, by decide +kernel, by decide +kernel⟩
theorem ok_MovedAhead {f : Addr} {fd : FuncData} (F : Fun K "moved_ahead" "moved_ahead" sMovedAhead f fd) (E : Ev K mg CN)  : FnOk P w K mg base (CX1 P w) 1 f fd ["lines", "first", "number"] (spD K TMoved) := by
  refine F.okD scMovedAhead (fun ds M q x h => ?_) (fun cdv A outer s H E' hr => ⟨_, (jss_one (js_ret (j_catL (j_catL (j_catL (je_fz (j_slToL (jv 0) (jv 1))) (j_lst (ja_cons (j_ix (jv 0) (jv 2)) ja_nil (hs := starX)))) (je_fz (j_slBothL (jv 0) (jv 1) (jv 2)))) (je_fz (j_slFromL (jv 0) (j_add (jv 2) jint)))))), fun ds M q x h => ?_⟩)
  · obtain ⟨ls, f, k, rfl, _⟩ := h; rfl
  · obtain ⟨ls, f, k, rfl, hf, hk, l12, h⟩ := h
    have gk : ls.getD k [] = ls[k] := by rw [List.getD_eq_getElem?_getD, List.getElem?_eq_getElem hk]; rfl
    have sz : ∀ {n : Nat}, n ≤ 40 → n ≤ sizeLine := fun h => Nat.le_trans h (by decide)
    refine ⟨ls.map ilD, f, rfl, rfl, ?_⟩
    rw [← List.map_take]
    refine fz_loc (mls_un _) ?_
    dsimp only [gN, sFor, iRng, dFrz, dFz, sSeq, sNext, sIf, sRet, sSet, sDrop, sRaise, dCall, dFn, dOp, dUn, dVar, dC, aNil, aCons, dTup, dLst, tstD, andT, orT, notT, dAnd, dOr, dNot, dIf, dSM, startD, List.map_cons, List.map_nil, List.length_cons, List.length_nil, List.cons_append, List.nil_append, List.replicate, List.getElem?_cons_zero, List.getElem?_cons_succ, List.set_cons_zero, List.set_cons_succ, Nat.reduceSub, Nat.reduceAdd, Nat.zero_add]
    refine (fIx_seq (d := mlD ls) rfl (ml_at hk) ?_ : fIx (mlD ls) (.int (k : Int)) _ _)
    refine ⟨sz (by show 1 ≤ 40; decide), (ls.take f).map ilD, [ilD ls[k]], rfl, rfl, sz (by simp; omega), ?_⟩
    refine ⟨f, rfl, ls.map ilD, k, rfl, rfl, ?_⟩
    rw [← List.map_drop, ← List.map_take]
    refine fz_loc (mls_un _) ?_
    refine ⟨(ls.take f).map ilD ++ [ilD ls[k]], ((ls.drop f).take (k - f)).map ilD, rfl, rfl, sz (by simp; omega), ?_⟩
    refine ⟨ls.map ilD, k + 1, rfl, rfl, ?_⟩
    rw [← List.map_drop]
    refine fz_loc (mls_un _) ?_
    refine ⟨(ls.take f).map ilD ++ [ilD ls[k]] ++ ((ls.drop f).take (k - f)).map ilD, (ls.drop (k + 1)).map ilD, rfl, rfl, sz (by simp; omega), ?_⟩
    unfold movedL Bz.movedL at h
    rw [gk] at h
    have e : (ls.take f).map ilD ++ [ilD ls[k]] ++ ((ls.drop f).take (k - f)).map ilD ++ (ls.drop (k + 1)).map ilD = (ls.take f ++ [ls[k]] ++ (ls.drop f).take (k - f) ++ ls.drop (k + 1)).map ilD := by
      rw [List.map_append, List.map_append, List.map_append]; rfl
    rw [e]; exact h
abbrev clearL := Bz.clearL
def TClear : DF := fun as M q _ => ∃ (l h : List Int) (c : Nat) (d : Int), as = [ilD l, ilD h, .int (c : Int), .int d] ∧ l.length = h.length ∧ h.length ≤ 30 ∧ c < h.length ∧ (∀ x ∈ l, Big x) ∧ (∀ x ∈ h, Big x) ∧ d ≠ 0 ∧ Big d ∧ q (ilD (clearL l h c d)) M
theorem scClearedLine : FnScope ["line", "head", "column", "divisor"] ["line", "head", "column", "divisor"] (defScope sClearedLine) := ⟨rfl, rfl, rfl, by decide +kernel, rfl, by decide +kernel, by decide +kernel⟩
theorem ok_ClearedLine {f : Addr} {fd : FuncData} (F : Fun K "cleared_line" "cleared_line" sClearedLine f fd) (E : Ev K mg CN)  : FnOk P w K mg base (CX1 P w) 1 f fd ["line", "head", "column", "divisor"] (spD K TClear) := by
  refine F.okD scClearedLine (fun ds M q x h => ?_) (fun cdv A outer s H E' hr => ⟨_, (jss_one (js_ret (j_comp2 (ys := ["divisor", "head", "column", "line"]) (caps := [3, 1, 2, 0]) ⟨rfl, by decide +kernel, by decide +kernel, (by show ∀ x : Str, x ∈ (["own", "other"] : List Str) → _; decide +kernel), (by show ∀ p : Str × NameKind, p ∈ _ → p.2 = NameKind.free → List.lookup p.1 (defScope sClearedLine).names = some .cell; decide +kernel), by decide +kernel, (by show ∀ q : Str × Nat, q ∈ _ → (["line", "head", "column", "divisor"] : List Str)[q.2]? = some q.1 ∧ List.lookup q.1 (defScope sClearedLine).names = some .cell ∧ _; decide +kernel), rfl⟩ (jk_zip E.n_zip (ja_cons (jv 0) (ja_cons (jv 1) ja_nil (hs := starN)) (hs := starN))) (fun C s H fp => (j_divN (j_sub (j_mul (j_ix (jv 3) (jv 4)) (jv 0)) (j_mul (j_ix (jv 5) (jv 4)) (jv 1))) (jv 2)))))), fun ds M q x h => ?_⟩)
  · obtain ⟨l, h', c, d, rfl, _⟩ := h; rfl
  · obtain ⟨l, hd, c, d, rfl, hl, h30, hc, bl, bh, d0, bd, h⟩ := h
    have cl : c < l.length := by omega
    have g1 : hd.getD c 0 = hd[c] := by rw [List.getD_eq_getElem?_getD, List.getElem?_eq_getElem hc]; rfl
    have g2' : l.getD c 0 = l[c] := by rw [List.getD_eq_getElem?_getD, List.getElem?_eq_getElem cl]; rfl
    refine ⟨ilD l, ilD hd, l.map Dt.int, hd.map Dt.int, fun _ => True, fun _ => True, rfl, rfl, rfl, ?_⟩
    have ez : zipD (l.map Dt.int) (hd.map Dt.int) = (l.zip hd).map fun p => .tup [.int p.1, .int p.2] := by
      unfold zipD
      rw [List.zip_map, List.map_map]; rfl
    rw [ez]
    refine ⟨?_, ?_⟩
    · rw [List.length_map, List.length_zip]; exact Nat.le_trans (show _ ≤ 30 by omega) (by decide)
    refine comp2_map ⟨trivial, trivial⟩ (fun x => match x with | .tup [.int a, .int b] => .int ((hd.getD c 0 * a - l.getD c 0 * b).fdiv d) | _ => .non) _ _ (fun x hx q' hq => ?_) ?_
    · obtain ⟨p, hp, rfl⟩ := List.mem_map.mp hx
      have hq : q' (.int ((hd.getD c 0 * p.1 - l.getD c 0 * p.2).fdiv d)) M := hq
      have p1 := bl p.1 (List.of_mem_zip hp).1
      have p2 := bh p.2 (List.of_mem_zip hp).2
      rw [g1, g2'] at hq
      have key : fIx (ilD hd) (.int (c : Int)) M (fun x M1 => fMul x (.int p.1) M1 fun y M2 => fIx (ilD l) (.int (c : Int)) M2 fun z M3 => fMul z (.int p.2) M3 fun u M4 => fSub y u M4 fun v M5 => fDivN v (.int d) M5 q') := by
        refine fIx_seq (d := ilD hd) rfl (int_at hc) ⟨⟨bh _ (List.getElem_mem hc), p1⟩, ?_⟩
        refine fIx_seq (d := ilD l) rfl (int_at cl) ⟨⟨bl _ (List.getElem_mem cl), p2⟩, ?_⟩
        exact ⟨⟨d0, bd⟩, hq⟩
      exact key
    · rw [List.nil_append, List.map_map]
      unfold clearL Bz.clearL at h
      rw [show ilD ((l.zip hd).map fun p => (hd.getD c 0 * p.1 - l.getD c 0 * p.2).fdiv d) = .lst ((l.zip hd).map fun p => Dt.int ((hd.getD c 0 * p.1 - l.getD c 0 * p.2).fdiv d)) by show Dt.lst _ = _; rw [List.map_map]; rfl] at h
      exact h
end
end Pg


set_option Elab.async false
set_option linter.all false
set_option maxRecDepth 100000
set_option maxHeartbeats 4000000
namespace Pg
open PySem L2 Fr0 Tx
theorem pow_mono {a b : Int} (h0 : 0 ≤ a) (h : a ≤ b) : ∀ n : Nat, a ^ n ≤ b ^ n
  | 0 => by rw [Int.pow_zero, Int.pow_zero]; exact Int.le_refl _
  | n + 1 => by
    rw [Int.pow_succ, Int.pow_succ]
    exact Int.mul_le_mul (pow_mono h0 h n) h h0 (Int.pow_nonneg (by omega))
theorem ab_big {x B : Int} {r : Nat} (h : Bz.Ab x (Bz.top B r)) (h1 : 1 ≤ B) (hB : B ≤ 2 ^ 450) (hr : r ≤ 12) : Big x := by
  have e1 : Bz.top B r ≤ (12 * B) ^ 15 := Bz.pow_le h1 (by omega)
  have e2 : (12 * B) ^ 15 ≤ (12 * 2 ^ 450) ^ 15 := pow_mono (by omega) (by omega) 15
  have e3 : ((12 * 2 ^ 450) ^ 15 : Int) < ((2 ^ 8000 : Nat) : Int) := by decide
  have : (x.natAbs : Int) < ((2 ^ 8000 : Nat) : Int) := by
    obtain ⟨a, b⟩ := h
    omega
  exact Int.ofNat_lt.mp this
section
variable {A : Nat → Bz.Row} {n col : Nat} {ρ cols : List Nat} {qq : Nat → Nat} {d : Int} {W : Nat → Bz.Row}
theorem line_big {m : Nat} {B : Int} (t : Bz.Turn A n col ρ cols qq d W) (b : Bz.Bd A n m B) (hB : B ≤ 2 ^ 450) (hm : col ≤ m) (hr : ρ.length ≤ 12) : (∀ i, i < n → ∀ x ∈ Bz.lineL A n m (W i), Big x) ∧ Big d := by
  obtain ⟨a1, a2, a3⟩ := t.st.abs b (fun c hc => Nat.lt_of_lt_of_le (t.cl c hc) hm) hr
  refine ⟨fun i hi x hx => ?_, ab_big a3 b.b1 hB hr⟩
  unfold Bz.lineL at hx
  rcases List.mem_append.mp hx with z | z
  · obtain ⟨y, hy, rfl⟩ := List.mem_map.mp z
    exact ab_big (a2 i y hi (List.mem_range.mp hy)) b.b1 hB hr
  · obtain ⟨y, hy, rfl⟩ := List.mem_map.mp z
    exact ab_big (a1 i y hi) b.b1 hB hr
end
abbrev Fr := Int × Int
def frD (p : Fr) : Dt := .tup [.int p.1, .int p.2]
def ntD (n : Nat) : Dt := .int n
theorem nats_un {n : Nat} : ∀ (l : List Nat), Dt.underL n (l.map ntD)
  | [] => trivial
  | _ :: l => ⟨trivial, nats_un l⟩
theorem mem_lines {A : Nat → Bz.Row} {n m : Nat} {W : Nat → Bz.Row} {l : List Int} (h : l ∈ Bz.linesL A n m W) : ∃ i, i < n ∧ l = Bz.lineL A n m (W i) := by
  unfold Bz.linesL at h
  obtain ⟨i, hi, e⟩ := List.mem_map.mp h
  exact ⟨i, List.mem_range.mp hi, e.symm⟩
theorem rep_flat {α : Type} (a : α) : ∀ u : Nat, (List.replicate u [a]).flatten = List.replicate u a
  | 0 => rfl
  | u + 1 => by rw [List.replicate_succ, List.flatten_cons, rep_flat a u]; rfl
structure RowsOk (rows : List (List Int)) (u : Nat) (B : Int) : Prop where
  n1 : 1 ≤ rows.length
  n12 : rows.length ≤ 12
  u12 : u ≤ 12
  ml : ∀ r ∈ rows, r.length = u + 1
  bd : Bz.Bd (Bz.arr rows) rows.length (u + 1) B
  b450 : B ≤ 2 ^ 450
section
variable {P : Program} {w : World} {K : PySem.W.Frag} {mg : Str → Option Value} {base : Heap} {CN : Addr}
def TCleared : DF := fun as M q _ => ∃ (rows : List (List Int)) (u : Nat) (B : Int), as = [mlD rows, .int (u : Int)] ∧ RowsOk rows u B ∧
  ∀ ρ cols qq d W, Bz.Turn (Bz.arr rows) rows.length u ρ cols qq d W → q (.tup [mlD (Bz.linesL (Bz.arr rows) rows.length (u + 1) W), .loc M.length]) (M ++ [.lst (cols.map ntD)])
theorem scCleared : FnScope ["rows", "unknowns", "lines", "columns", "divisor", "column", "rank", "number", "head", "above", "below"] ["rows", "unknowns"] (defScope sCleared) := ⟨rfl, rfl, rfl, by decide +kernel, rfl, by decide +kernel, by decide +kernel⟩
theorem ok_Cleared {f : Addr} {fd : FuncData} (F : Fun K "cleared" "cleared" sCleared f fd) (E : Ev K mg CN) {fWithWeights : Addr} {dWithWeights : FuncData} (c_WithWeights : CalD P w K mg base 1 "with_weights" ["rows"] TWith fWithWeights dWithWeights) {fNumberOfHead : Addr} {dNumberOfHead : FuncData} (c_NumberOfHead : CalD P w K mg base 1 "number_of_head" ["lines", "first", "column"] TNoh fNumberOfHead dNumberOfHead) {fMovedAhead : Addr} {dMovedAhead : FuncData} (c_MovedAhead : CalD P w K mg base 1 "moved_ahead" ["lines", "first", "number"] TMoved fMovedAhead dMovedAhead) {fClearedLine : Addr} {dClearedLine : FuncData} (c_ClearedLine : CalD P w K mg base 1 "cleared_line" ["line", "head", "column", "divisor"] TClear fClearedLine dClearedLine) : FnOk P w K mg base (CX1 P w) 2 f fd ["rows", "unknowns"] (spD K TCleared) := by
  refine F.okD scCleared (fun ds M q x h => ?_) (fun cdv A outer s H E' hr => ⟨_, (jss_cons (js_set (i := 2) scCleared.nd rfl (Or.inl rfl) (je_fz (j_fn c_WithWeights hr passes1 (ja_cons (jv 0) ja_nil (hs := starN)))))
      (jss_cons (js_set (i := 3) scCleared.nd rfl (Or.inl rfl) (j_lstM ja_nil))
      (jss_cons (js_set (i := 4) scCleared.nd rfl (Or.inr rfl) jint)
      (jss_cons (js_for (ji_range E.n_range (ja_cons (jv 1) ja_nil (hs := starN))) (pg_name (i := 5) scCleared.nd rfl (Or.inr rfl)) gd_name (jss_cons (js_set (i := 6) scCleared.nd rfl (Or.inl rfl) (j_len E.n_len (ja_cons (jv 3) ja_nil (hs := starN))))
      (jss_cons (js_set (i := 7) scCleared.nd rfl (Or.inl rfl) (j_fn c_NumberOfHead hr passes1 (ja_cons (jv 2) (ja_cons (jv 6) (ja_cons (jv 5) ja_nil (hs := starN)) (hs := starN)) (hs := starN))))
      (jss_cons (js_if (jt_isN (jv 7) jnon) (jss_one js_continue) jss_nil)
      (jss_cons (js_set (i := 2) scCleared.nd rfl (Or.inl rfl) (j_fn c_MovedAhead hr passes1 (ja_cons (jv 2) (ja_cons (jv 6) (ja_cons (jv 7) ja_nil (hs := starN)) (hs := starN)) (hs := starN))))
      (jss_cons (js_set (i := 8) scCleared.nd rfl (Or.inr rfl) (j_ix (jv 2) (jv 6)))
      (jss_cons (js_setcompK (i := 9) scCleared.nd rfl (Or.inl rfl) (ys := ["head", "column", "divisor"]) (caps := [8, 5, 4]) ⟨rfl, by decide +kernel, by decide +kernel, rfl, (by show ∀ p : Str × NameKind, p ∈ _ → p.2 = NameKind.free → List.lookup p.1 (defScope sCleared).names = some .cell; decide +kernel), by decide +kernel, (by show ∀ q : Str × Nat, q ∈ _ → (["rows", "unknowns", "lines", "columns", "divisor", "column", "rank", "number", "head", "above", "below"] : List Str)[q.2]? = some q.1 ∧ List.lookup q.1 (defScope sCleared).names = some .cell ∧ _; decide +kernel), rfl⟩ (jk_seq (je_fz (j_slToL (jv 2) (jv 6)))) (fun C s H fp => (j_fn c_ClearedLine hr (passesN (P := P) (w := w)) (ja_cons (jv 0) (ja_cons (jv 1) (ja_cons (jv 2) (ja_cons (jv 3) ja_nil (hs := starN)) (hs := starN)) (hs := starN)) (hs := starN)))))
      (jss_cons (js_setcompK (i := 10) scCleared.nd rfl (Or.inl rfl) (ys := ["head", "column", "divisor"]) (caps := [8, 5, 4]) ⟨rfl, by decide +kernel, by decide +kernel, rfl, (by show ∀ p : Str × NameKind, p ∈ _ → p.2 = NameKind.free → List.lookup p.1 (defScope sCleared).names = some .cell; decide +kernel), by decide +kernel, (by show ∀ q : Str × Nat, q ∈ _ → (["rows", "unknowns", "lines", "columns", "divisor", "column", "rank", "number", "head", "above", "below"] : List Str)[q.2]? = some q.1 ∧ List.lookup q.1 (defScope sCleared).names = some .cell ∧ _; decide +kernel), rfl⟩ (jk_seq (je_fz (j_slFromL (jv 2) (j_add (jv 6) jint)))) (fun C s H fp => (j_fn c_ClearedLine hr (passesN (P := P) (w := w)) (ja_cons (jv 0) (ja_cons (jv 1) (ja_cons (jv 2) (ja_cons (jv 3) ja_nil (hs := starN)) (hs := starN)) (hs := starN)) (hs := starN)))))
      (jss_cons (js_set (i := 2) scCleared.nd rfl (Or.inl rfl) (j_catL (j_catL (jv 9) (j_lst (ja_cons (jv 8) ja_nil (hs := starN)))) (jv 10)))
      (jss_cons (js_set (i := 4) scCleared.nd rfl (Or.inr rfl) (j_ix (jv 8) (jv 5)))
      (jss_one (js_expr (j_append (jv 3) (ja_cons (jv 5) ja_nil (hs := starN)))))))))))))))
      (jss_one (js_ret (j_tup (ja_cons (jv 2) (ja_cons (jv 3) ja_nil (hs := starN)) (hs := starN))))))))), fun ds M q x h => ?_⟩)
  · obtain ⟨rows, u, B, rfl, _⟩ := h; rfl
  · obtain ⟨rows, u, B, rfl, ro, h⟩ := h
    have n1 := ro.n1
    have n12 := ro.n12
    have u12 := ro.u12
    refine ⟨rows, rfl, n12, fun r hr' => by rw [ro.ml r hr']; omega, fun E0' => ?_⟩
    rw [Bz.lines_start ro.ml]
    refine fz_new (d' := mlD (Bz.linesL (Bz.arr rows) rows.length (u + 1) fun i => Bz.ind i)) (.newL (Nat.le_refl _) (by simp) (FrzL.old (mls_un _))) ?_
    generalize hA : Bz.arr rows = A at *
    generalize hn : rows.length = n at *
    refine ⟨by decide, ?_⟩
    dsimp only [gN, sFor, iRng, dFrz, dFz, sSeq, sNext, sIf, sRet, sSet, sDrop, sRaise, dCall, dFn, dOp, dUn, dVar, dC, aNil, aCons, dTup, dLst, tstD, andT, orT, notT, dAnd, dOr, dNot, dIf, dSM, startD, List.map_cons, List.map_nil, List.length_cons, List.length_nil, List.cons_append, List.nil_append, List.replicate, List.getElem?_cons_zero, List.getElem?_cons_succ, List.set_cons_zero, List.set_cons_succ, Nat.reduceSub, Nat.reduceAdd, Nat.zero_add]
    refine ⟨⟨by omega, by omega⟩, ?_⟩
    refine forD_map (fun zs ρ' M' => ∃ (c k : Nat) (ρ cols : List Nat) (qq : Nat → Nat) (d : Int) (W : Nat → Bz.Row) (o1 o2 o3 o4 o5 o6 : Option Dt), zs = rngD k c ∧ k + c = u ∧ Bz.Turn A n k ρ cols qq d W ∧ M' = M ++ [MO.lst (cols.map ntD)] ∧ ρ' = [some (mlD rows), some (.int (u : Int)), some (mlD (Bz.linesL A n (u + 1) W)), some (.loc M.length), some (.int d), o1, o2, o3, o4, o5, o6]) (fun x zs ρ' M' hj nxt => ?_) (fun ρ' M' hj => ?_) _ _ _ ⟨u, 0, [], [], id, 1, _, none, none, none, none, none, none, by simp, by simp, Bz.Turn.start, rfl, rfl⟩
    · obtain ⟨c, k, ρ, cols, qq, d, W, o1, o2, o3, o4, o5, o6, ex, hkc, t, rfl, rfl⟩ := hj
      obtain ⟨m, rfl, rfl, rfl⟩ := rngD_cons ex
      have lc : cols.length = ρ.length := t.st.lc
      have rn : ρ.length ≤ n := t.st.rn
      have hs1 : seqD (M ++ [MO.lst (cols.map ntD)]) (.loc M.length) = some (cols.map ntD) := lstR_seq (lstR_at at_new)
      dsimp only [gN, sFor, iRng, dFrz, dFz, sSeq, sNext, sIf, sRet, sSet, sDrop, sRaise, dCall, dFn, dOp, dUn, dVar, dC, aNil, aCons, dTup, dLst, tstD, andT, orT, notT, dAnd, dOr, dNot, dIf, dSM, startD, List.map_cons, List.map_nil, List.length_cons, List.length_nil, List.cons_append, List.nil_append, List.replicate, List.getElem?_cons_zero, List.getElem?_cons_succ, List.set_cons_zero, List.set_cons_succ, Nat.reduceSub, Nat.reduceAdd, Nat.zero_add]
      refine (fLen_seq (d := .loc M.length) hs1 ?_ : fLen [.loc M.length] _ _)
      rw [List.length_map, lc]
      refine ⟨Bz.linesL A n (u + 1) W, ρ.length, k, rfl, by rw [Bz.lines_len]; exact rn, by rw [Bz.lines_len]; exact n12, fun l hl => ?_, fun hz => ?_, fun k' h1 h2 h0 => ?_⟩
      · obtain ⟨i, _, rfl⟩ := mem_lines hl
        rw [Bz.line_len]; omega
      · refine ⟨fun _ => ?_, fun z => (nomatch z)⟩
        refine nxt _ _ ⟨m, k + 1, ρ, cols, qq, d, W, _, _, _, _, _, _, by simp, by omega, t.skip fun i a b => ?_, rfl, rfl⟩
        have := hz i a (by rw [Bz.lines_len]; exact b)
        rw [Bz.lines_at b, Bz.line_at (by omega)] at this
        exact this
      · rw [Bz.lines_len] at h2
        rw [Bz.lines_at h2, Bz.line_at (show k < u + 1 by omega)] at h0
        refine ⟨fun z => (nomatch z), fun _ => ?_⟩
        refine ⟨Bz.linesL A n (u + 1) W, ρ.length, k', rfl, h1, by rw [Bz.lines_len]; exact h2, by rw [Bz.lines_len]; exact n12, ?_⟩
        rw [show movedL (Bz.linesL A n (u + 1) W) ρ.length k' = _ from Bz.lines_moved h1 h2]
        have t1 := t.move h1 h2
        have hrn : ρ.length < n := by omega
        have h0' : Bz.rv A n (W (Bz.rot ρ.length k' ρ.length)) k ≠ 0 := by
          have : Bz.rot ρ.length k' ρ.length = k' := by unfold Bz.rot; rw [if_neg (Nat.lt_irrefl _), if_pos rfl]
          rw [this]; exact h0
        clear h0 h1 h2 t
        generalize hW1 : (fun i => W (Bz.rot ρ.length k' i)) = W1 at *
        generalize hq1 : (fun i => qq (Bz.rot ρ.length k' i)) = q1 at *
        have e1 : W (Bz.rot ρ.length k' ρ.length) = W1 ρ.length := by rw [← hW1]
        rw [e1] at h0'
        obtain ⟨bl, bd⟩ := line_big t1 (m := u + 1) (by subst hA hn; exact ro.bd) ro.b450 (by omega) (by omega)
        obtain ⟨W', t2, el⟩ := t1.step (m := u + 1) hrn (by omega) h0'
        have llen : (Bz.linesL A n (u + 1) W1).length = n := Bz.lines_len
        have hdg : (Bz.linesL A n (u + 1) W1)[ρ.length]'(by rw [llen]; exact hrn) = Bz.lineL A n (u + 1) (W1 ρ.length) := by
          have := Bz.lines_at (A := A) (m := u + 1) (W := W1) hrn
          rw [List.getD_eq_getElem?_getD, List.getElem?_eq_getElem (by rw [llen]; exact hrn)] at this
          exact this
        have clr : ∀ l ∈ Bz.linesL A n (u + 1) W1, ∀ q' : DQ, q' (ilD (clearL l (Bz.lineL A n (u + 1) (W1 ρ.length)) k d)) (M ++ [MO.lst (cols.map ntD)]) → TClear [ilD l, ilD (Bz.lineL A n (u + 1) (W1 ρ.length)), .int (k : Int), .int d] (M ++ [MO.lst (cols.map ntD)]) q' (fun C fs M' => noX [] C fs M') := fun l hl q' hq' => by
          obtain ⟨i, hi, rfl⟩ := mem_lines hl
          exact ⟨_, _, k, d, rfl, by rw [Bz.line_len, Bz.line_len], by rw [Bz.line_len]; omega, by rw [Bz.line_len]; omega, bl i hi, bl _ hrn, t1.d0, bd, hq'⟩
        dsimp only [gN, sFor, iRng, dFrz, dFz, sSeq, sNext, sIf, sRet, sSet, sDrop, sRaise, dCall, dFn, dOp, dUn, dVar, dC, aNil, aCons, dTup, dLst, tstD, andT, orT, notT, dAnd, dOr, dNot, dIf, dSM, startD, List.map_cons, List.map_nil, List.length_cons, List.length_nil, List.cons_append, List.nil_append, List.replicate, List.getElem?_cons_zero, List.getElem?_cons_succ, List.set_cons_zero, List.set_cons_succ, Nat.reduceSub, Nat.reduceAdd, Nat.zero_add]
        refine (fIx_seq (d := mlD (Bz.linesL A n (u + 1) W1)) rfl (ml_at (by rw [llen]; exact hrn)) ?_ : fIx (mlD (Bz.linesL A n (u + 1) W1)) (.int (ρ.length : Int)) _ _)
        rw [hdg]
        have sz : ∀ {z : Nat}, z ≤ 40 → z ≤ sizeLine := fun h => Nat.le_trans h (by decide)
        refine ⟨(Bz.linesL A n (u + 1) W1).map ilD, ρ.length, rfl, rfl, ?_⟩
        rw [← List.map_take]
        refine fz_loc (mls_un _) ⟨sz (by rw [List.length_map, List.length_take]; omega), ?_⟩
        refine compK_pair (F := fun x a => x = ilD a ∧ a ∈ Bz.linesL A n (u + 1) W1) (f := fun l => ilD (clearL l (Bz.lineL A n (u + 1) (W1 ρ.length)) k d)) trivial (fun x a ha q' hq' => by obtain ⟨rfl, ha⟩ := ha; exact clr a ha q' hq') (prd_self ilD _ _ fun _ h => List.mem_of_mem_take h) ?_
        rw [List.nil_append]
        refine ⟨(Bz.linesL A n (u + 1) W1).map ilD, ρ.length + 1, rfl, rfl, ?_⟩
        rw [← List.map_drop]
        refine fz_loc (mls_un _) ⟨sz (by rw [List.length_map, List.length_drop]; omega), ?_⟩
        refine compK_pair (F := fun x a => x = ilD a ∧ a ∈ Bz.linesL A n (u + 1) W1) (f := fun l => ilD (clearL l (Bz.lineL A n (u + 1) (W1 ρ.length)) k d)) trivial (fun x a ha q' hq' => by obtain ⟨rfl, ha⟩ := ha; exact clr a ha q' hq') (prd_self ilD _ _ fun _ h => List.mem_of_mem_drop h) ?_
        rw [List.nil_append]
        refine ⟨by show 1 ≤ sizeLine; decide, _, _, rfl, rfl, sz (by simp; omega), _, _, rfl, rfl, sz (by simp; omega), ?_⟩
        have ek : k < (Bz.lineL A n (u + 1) (W1 ρ.length)).length := by rw [Bz.line_len]; omega
        have ev : (Bz.lineL A n (u + 1) (W1 ρ.length))[k] = Bz.rv A n (W1 ρ.length) k := by
          have := Bz.line_at (A := A) (n := n) (m := u + 1) (x := k) (w := W1 ρ.length) (by omega)
          rw [List.getD_eq_getElem?_getD, List.getElem?_eq_getElem ek] at this
          exact this
        refine fIx_seq (d := ilD (Bz.lineL A n (u + 1) (W1 ρ.length))) rfl (int_at ek) ?_
        rw [ev]
        refine ⟨⟨M.length, _, rfl, at_new⟩, M.length, _, _, rfl, rfl, at_new, ?_, ?_⟩
        · rw [List.length_map, lc]; exact Nat.lt_of_le_of_lt (show _ ≤ 12 by omega) (by decide)
        rw [set_new]
        have ee := congrArg (List.map ilD) el
        rw [List.map_append, List.map_append, List.map_map, List.map_map] at ee
        refine nxt _ _ ⟨m, k + 1, ρ ++ [q1 ρ.length], cols ++ [k], q1, _, W', some (.int (k : Int)), some (.int (ρ.length : Int)), some (.int (k' : Int)), some (ilD (Bz.lineL A n (u + 1) (W1 ρ.length))), some (.lst (((Bz.linesL A n (u + 1) W1).take ρ.length).map fun l => ilD (clearL l (Bz.lineL A n (u + 1) (W1 ρ.length)) k d))), some (.lst (((Bz.linesL A n (u + 1) W1).drop (ρ.length + 1)).map fun l => ilD (clearL l (Bz.lineL A n (u + 1) (W1 ρ.length)) k d))), by simp, by omega, t2, by simp [ntD], ?_⟩
        show _ = [some (mlD rows), some (Dt.int (u : Int)), some (Dt.lst ((Bz.linesL A n (u + 1) W').map ilD)), some (Dt.loc M.length), some (Dt.int _), _, _, _, _, _, _]
        rw [← ee]
        rfl
    · obtain ⟨c, k, ρ, cols, qq, d, W, o1, o2, o3, o4, o5, o6, ex, hkc, t, rfl, rfl⟩ := hj
      have hn0 : c = 0 := by
        have := congrArg List.length ex
        unfold rngD at this
        simpa using this.symm
      have : k = u := by omega
      subst this
      exact ⟨by show 2 ≤ sizeLine; decide, h _ _ _ _ _ t⟩
def TQuot : DF := fun as M q _ => ∃ (rows : List (List Int)) (u : Nat) (B : Int) (ρ cols : List Nat) (qq : Nat → Nat) (d : Int) (W : Nat → Bz.Row), as = [mlD (Bz.linesL (Bz.arr rows) rows.length (u + 1) W), .lst (cols.map ntD), .int (u : Int), .int (u : Int)] ∧ RowsOk rows u B ∧ Bz.Turn (Bz.arr rows) rows.length u ρ cols qq d W ∧ cols = List.range u ∧
  q (.loc M.length) (M ++ [.lst ((List.range u).map fun i => frD (frac (Bz.rv (Bz.arr rows) rows.length (W i) u) d))])
theorem scQuotients : FnScope ["lines", "columns", "unknowns", "source", "told", "line", "column"] ["lines", "columns", "unknowns", "source"] (defScope sQuotients) := ⟨rfl, rfl, rfl, by decide +kernel, rfl, by decide +kernel, by decide +kernel⟩
theorem ok_Quotients {f : Addr} {fd : FuncData} (F : Fun K "quotients" "quotients" sQuotients f fd) (E : Ev K mg CN) {fFraction : Addr} {dFraction : FuncData} (c_Fraction : CalD P w K mg base 2 "fraction" ["top", "bottom"] (TFrac CN) fFraction dFraction) : FnOk P w K mg base (CX1 P w) 3 f fd ["lines", "columns", "unknowns", "source"] (spD K TQuot) := by
  refine F.okD scQuotients (fun ds M q x h => ?_) (fun cdv A outer s H E' hr => ⟨_, (jss_cons (js_set (i := 4) scQuotients.nd rfl (Or.inl rfl) (j_repM (j_const 3 (d := .lst [.tup [.int 0, .int 1]]) (by rfl)) (jv 2)))
      (jss_cons (js_forK (jk_zip E.n_zip (ja_cons (jv 0) (ja_cons (jv 1) ja_nil (hs := starN)) (hs := starN))) (pg_tup rfl (pgs_cons (pg_name (i := 5) scQuotients.nd rfl (Or.inl rfl)) (pgs_cons (pg_name (i := 6) scQuotients.nd rfl (Or.inl rfl)) pgs_nil))) gd_two (jss_one (js_setix (jv 4) (jv 6) (j_fn c_Fraction hr passes1 (ja_cons (j_ix (jv 5) (jv 3)) (ja_cons (j_ix (jv 5) (jv 6)) ja_nil (hs := starX)) (hs := starX))))))
      (jss_one (js_ret (jv 4))))), fun ds M q x h => ?_⟩)
  · obtain ⟨rows, u, B, ρ, cols, qq, d, W, rfl, _⟩ := h; rfl
  · obtain ⟨rows, u, B, ρ, cols, qq, d, W, rfl, ro, t, hc, h⟩ := h
    have u12 := ro.u12
    have n12 := ro.n12
    have hl : ρ.length = u := by rw [← t.st.lc, hc, List.length_range]
    have un : u ≤ rows.length := by rw [← hl]; exact t.st.rn
    obtain ⟨bl, bd⟩ := line_big t (m := u + 1) ro.bd ro.b450 (by omega) (by omega)
    have d0 := t.d0
    have one : ∀ i, i < u → Bz.rv (Bz.arr rows) rows.length (W i) i = d := fun i hi => by
      have := t.st.one i i (by omega) (by omega)
      rw [if_pos rfl, hc, List.getD_eq_getElem?_getD, List.getElem?_range hi] at this
      exact this
    generalize hA : Bz.arr rows = A at *
    generalize hn : rows.length = n at *
    let tl : Nat → List Dt := fun k => (List.range u).map fun i => if i < k then frD (frac (Bz.rv A n (W i) u) d) else frD (0, 1)
    have t0 : (List.replicate (u : Int).toNat [frD (0, 1)]).flatten = tl 0 := by
      show _ = (List.range u).map fun i => if i < 0 then _ else frD (0, 1)
      rw [show ((u : Int)).toNat = u by omega]
      apply List.ext_getElem
      · simp
      · intro j h1 h2
        have e : (List.replicate u [frD (0, 1)]).flatten = List.replicate u (frD (0, 1)) := rep_flat _ u
        simp [e]
    have ts : ∀ k, k < u → (tl k).set k (frD (frac (Bz.rv A n (W k) u) d)) = tl (k + 1) := fun k hk => by
      apply List.ext_getElem
      · simp [tl]
      · intro j h1 h2
        rw [List.getElem_set]
        simp only [tl, List.getElem_map, List.getElem_range]
        by_cases e : k = j
        · subst e; rw [if_pos rfl, if_pos (by omega)]
        · rw [if_neg e]
          by_cases f : j < k
          · rw [if_pos f, if_pos (by omega)]
          · rw [if_neg f, if_neg (by omega)]
    refine ⟨[frD (0, 1)], u, rfl, rfl, by omega, by omega, ?_, ?_⟩
    · show 1 * ((u : Int)).toNat ≤ sizeLine
      exact Nat.le_trans (show _ ≤ 12 by omega) (by decide)
    rw [t0]
    refine ⟨mlD (Bz.linesL A n (u + 1) W), .lst (cols.map ntD), _, _, fun _ => True, fun _ => True, rfl, rfl, rfl, ?_⟩
    have ez : zipD ((Bz.linesL A n (u + 1) W).map ilD) (cols.map ntD) = (List.range u).map fun i => .tup [ilD (Bz.lineL A n (u + 1) (W i)), ntD i] := by
      unfold zipD Bz.linesL
      rw [hc]
      apply List.ext_getElem
      · simp; omega
      · intro j h1 h2
        simp
    rw [ez]
    refine forK_map (fun zs ρ' M' => ∃ (k : Nat) (o1 o2 : Option Dt), k ≤ u ∧ zs = ((List.range u).drop k).map (fun i => .tup [ilD (Bz.lineL A n (u + 1) (W i)), ntD i]) ∧ M' = M ++ [MO.lst (tl k)] ∧ ρ' = [some (mlD (Bz.linesL A n (u + 1) W)), some (.lst (cols.map ntD)), some (.int (u : Int)), some (.int (u : Int)), some (.loc M.length), o1, o2]) (fun zs ρ' M' hj => ⟨trivial, trivial⟩) (fun x zs ρ' M' hj nxt => ?_) (fun ρ' M' hj => ?_) _ _ _ ⟨0, none, none, Nat.zero_le _, rfl, rfl, rfl⟩
    · obtain ⟨k, o1, o2, hk, ex, rfl, rfl⟩ := hj
      have hk' : k < u := by
        rcases Nat.lt_or_ge k u with z | z
        · exact z
        · rw [List.drop_of_length_le (by simpa using z)] at ex; cases ex
      rw [List.drop_eq_getElem_cons (by simpa using hk'), List.map_cons, List.getElem_range] at ex
      cases ex
      have ek : k < (Bz.lineL A n (u + 1) (W k)).length := by rw [Bz.line_len]; omega
      have eu : u < (Bz.lineL A n (u + 1) (W k)).length := by rw [Bz.line_len]; omega
      have v1 : (Bz.lineL A n (u + 1) (W k))[k] = d := by
        have := Bz.line_at (A := A) (n := n) (m := u + 1) (x := k) (w := W k) (by omega)
        rw [List.getD_eq_getElem?_getD, List.getElem?_eq_getElem ek] at this
        rw [← one k hk']; exact this
      have v2 : (Bz.lineL A n (u + 1) (W k))[u] = Bz.rv A n (W k) u := by
        have := Bz.line_at (A := A) (n := n) (m := u + 1) (x := u) (w := W k) (by omega)
        rw [List.getD_eq_getElem?_getD, List.getElem?_eq_getElem eu] at this
        exact this
      dsimp only [g2, sSetIx]
      dsimp only [gN, sFor, iRng, dFrz, dFz, sSeq, sNext, sIf, sRet, sSet, sDrop, sRaise, dCall, dFn, dOp, dUn, dVar, dC, aNil, aCons, dTup, dLst, tstD, andT, orT, notT, dAnd, dOr, dNot, dIf, dSM, startD, List.map_cons, List.map_nil, List.length_cons, List.length_nil, List.cons_append, List.nil_append, List.replicate, List.getElem?_cons_zero, List.getElem?_cons_succ, List.set_cons_zero, List.set_cons_succ, Nat.reduceSub, Nat.reduceAdd, Nat.zero_add]
      refine fIx_seq (d := ilD (Bz.lineL A n (u + 1) (W k))) rfl (int_at eu) ?_
      refine fIx_seq (d := ilD (Bz.lineL A n (u + 1) (W k))) rfl (int_at ek) ?_
      rw [v1, v2]
      refine ⟨bd, fun z => absurd z d0, fun _ => ?_⟩
      refine ⟨M.length, k, _, k, rfl, rfl, at_new, ?_, ?_⟩
      · rw [show (tl k).length = u by simp [tl]]; exact ix_nat hk'
      rw [set_new]
      refine nxt _ _ ⟨k + 1, _, _, hk', rfl, ?_, rfl⟩
      rw [← ts k hk']; rfl
    · obtain ⟨k, o1, o2, hk, ex, rfl, rfl⟩ := hj
      have : k = u := by
        have := congrArg List.length ex
        simp at this; omega
      subst this
      have e : tl k = (List.range k).map fun i => frD (frac (Bz.rv A n (W i) k) d) := List.map_congr_left fun i hi => by
        rw [if_pos (List.mem_range.mp hi)]
      rw [e]; exact h
def TAnswer : DF := fun as M q _ => ∃ (rows : List (List Int)) (u : Nat) (B : Int) (due : List Fr) (z : Bz.Row) (N : Int), as = [mlD rows] ∧ RowsOk rows u B ∧ 1 ≤ u ∧ due.length = u ∧ Bz.Sol (Bz.arr rows) rows.length u z N ∧ N ≠ 0 ∧
  (∀ i, i < u → 0 < (due.getD i (0, 1)).2 ∧ Int.gcd (due.getD i (0, 1)).1 (due.getD i (0, 1)).2 = 1 ∧ N * (due.getD i (0, 1)).1 = z i * (due.getD i (0, 1)).2) ∧
  (∀ y : Bz.Row, (∀ k, k < rows.length → Bz.ssum (fun x => Bz.arr rows k x * y x) u = 0) → ∀ x, x < u → y x = 0) ∧ q (.loc M.length) (M ++ [.lst (due.map frD)])
theorem scAnswerOf : FnScope ["rows", "unknowns", "found", "lines", "columns", "line", "answer"] ["rows"] (defScope sAnswerOf) := ⟨rfl, rfl, rfl, by decide +kernel, rfl, by decide +kernel, by decide +kernel⟩
theorem ok_AnswerOf {f : Addr} {fd : FuncData} (F : Fun K "answer_of" "answer_of" sAnswerOf f fd) (E : Ev K mg CN) {fCleared : Addr} {dCleared : FuncData} (c_Cleared : CalD P w K mg base 2 "cleared" ["rows", "unknowns"] TCleared fCleared dCleared) {fQuotients : Addr} {dQuotients : FuncData} (c_Quotients : CalD P w K mg base 3 "quotients" ["lines", "columns", "unknowns", "source"] TQuot fQuotients dQuotients) : FnOk P w K mg base (CX1 P w) 4 f fd ["rows"] (spD K TAnswer) := by
  refine F.okD scAnswerOf (fun ds M q x h => ?_) (fun cdv A outer s H E' hr => ⟨_, (jss_cons (js_set (i := 1) scAnswerOf.nd rfl (Or.inl rfl) (j_sub (j_len E.n_len (ja_cons (j_ix (jv 0) jint) ja_nil (hs := starX))) jint))
      (jss_cons (js_set (i := 2) scAnswerOf.nd rfl (Or.inl rfl) (je_fz (j_fn c_Cleared hr passes1 (ja_cons (jv 0) (ja_cons (jv 1) ja_nil (hs := starN)) (hs := starN)))))
      (jss_cons (js_set (i := 3) scAnswerOf.nd rfl (Or.inl rfl) (j_ix (jv 2) jint))
      (jss_cons (js_set (i := 4) scAnswerOf.nd rfl (Or.inl rfl) (j_ix (jv 2) jint))
      (jss_cons (js_forK (jk_seq (je_fz (j_slFromL (jv 3) (j_len E.n_len (ja_cons (jv 4) ja_nil (hs := starN)))))) (pg_name (i := 5) scAnswerOf.nd rfl (Or.inl rfl)) gd_name (jss_one (js_if (jt_ne hr (j_ix (jv 5) (jv 1)) jint) (jss_one js_never) jss_nil)))
      (jss_cons (js_set (i := 6) scAnswerOf.nd rfl (Or.inl rfl) (j_fn c_Quotients hr passes1 (ja_cons (jv 3) (ja_cons (jv 4) (ja_cons (jv 1) (ja_cons (jv 1) ja_nil (hs := starN)) (hs := starN)) (hs := starN)) (hs := starN))))
      (jss_cons (js_if (jt_lt (j_len E.n_len (ja_cons (jv 4) ja_nil (hs := starN))) (jv 1)) (jss_one js_never) jss_nil)
      (jss_one (js_ret (jv 6)))))))))), fun ds M q x h => ?_⟩)
  · obtain ⟨rows, u, B, due, z, N, rfl, _⟩ := h; rfl
  · obtain ⟨rows, u, B, due, z, N, rfl, ro, u1, dl, sol, hN, hdue, hker, h⟩ := h
    have n1 := ro.n1
    have n12 := ro.n12
    have u12 := ro.u12
    have r0 : 0 < rows.length := by omega
    have m0 : rows[0].length = u + 1 := ro.ml _ (List.getElem_mem r0)
    dsimp only [gN, sFor, iRng, dFrz, dFz, sSeq, sNext, sIf, sRet, sSet, sDrop, sRaise, dCall, dFn, dOp, dUn, dVar, dC, aNil, aCons, dTup, dLst, tstD, andT, orT, notT, dAnd, dOr, dNot, dIf, dSM, startD, List.map_cons, List.map_nil, List.length_cons, List.length_nil, List.cons_append, List.nil_append, List.replicate, List.getElem?_cons_zero, List.getElem?_cons_succ, List.set_cons_zero, List.set_cons_succ, Nat.reduceSub, Nat.reduceAdd, Nat.zero_add]
    refine (fIx_seq (d := mlD rows) rfl (ml_at r0) ?_ : fIx (mlD rows) (.int 0) _ _)
    refine (fLen_seq (d := ilD rows[0]) (xs := rows[0].map Dt.int) rfl ?_ : fLen [ilD rows[0]] _ _)
    rw [List.length_map, m0]
    dsimp only [fSub]
    rw [show (((u + 1 : Nat) : Int) - 1) = (u : Int) by omega]
    refine ⟨rows, u, B, rfl, ro, fun ρ cols qq d W t => ?_⟩
    have hcols : cols = List.range u := by
      rcases t.all with e | ⟨x, hx, hf⟩
      · exact e
      · obtain ⟨y, y1, y2⟩ := t.kernel hx hf
        have := hker y y2 x hx
        rw [this] at y1
        exact absurd (by omega) t.d0
    have hl : ρ.length = u := by rw [← t.st.lc, hcols, List.length_range]
    have un : u ≤ rows.length := by rw [← hl]; exact t.st.rn
    refine fz_new (d' := .tup [mlD (Bz.linesL (Bz.arr rows) rows.length (u + 1) W), .lst (cols.map ntD)]) (.tup (.cons (.old (mls_un _)) (.cons (.newL (Nat.le_refl _) (by simp) (FrzL.old (nats_un _))) .nil))) ?_
    have told : (List.range u).map (fun i => frD (frac (Bz.rv (Bz.arr rows) rows.length (W i) u) d)) = due.map frD := by
      apply List.ext_getElem
      · simp [dl]
      · intro i h1 h2
        have hi : i < u := by simpa using h1
        simp only [List.getElem_map, List.getElem_range]
        obtain ⟨p0, p1, p2⟩ := hdue i hi
        have gi : due.getD i (0, 1) = due[i] := by rw [List.getD_eq_getElem?_getD, List.getElem?_eq_getElem (by omega)]; rfl
        rw [gi] at p0 p1 p2
        have e := t.told hcols sol hi
        congr 1
        have : frac (Bz.rv (Bz.arr rows) rows.length (W i) u) d = (due[i].1, due[i].2) := frac_of t.d0 p0 p1 (by
          refine Int.eq_of_mul_eq_mul_left hN ?_
          grind)
        exact this
    refine (fIx_seq (d := .tup [mlD (Bz.linesL (Bz.arr rows) rows.length (u + 1) W), .lst (cols.map ntD)]) rfl atI_zero ?_ : fIx (.tup [mlD (Bz.linesL (Bz.arr rows) rows.length (u + 1) W), .lst (cols.map ntD)]) (.int 0) _ _)
    refine (fIx_seq (d := .tup [mlD (Bz.linesL (Bz.arr rows) rows.length (u + 1) W), .lst (cols.map ntD)]) rfl (atI_nat (j := 1) rfl) ?_ : fIx (.tup [mlD (Bz.linesL (Bz.arr rows) rows.length (u + 1) W), .lst (cols.map ntD)]) (.int 1) _ _)
    have lcu : (cols.map ntD).length = u := by rw [List.length_map, hcols, List.length_range]
    dsimp only [sForK, iSeqK, dFz, dSlL]
    dsimp only [gN, sFor, iRng, dFrz, dFz, sSeq, sNext, sIf, sRet, sSet, sDrop, sRaise, dCall, dFn, dOp, dUn, dVar, dC, aNil, aCons, dTup, dLst, tstD, andT, orT, notT, dAnd, dOr, dNot, dIf, dSM, startD, List.map_cons, List.map_nil, List.length_cons, List.length_nil, List.cons_append, List.nil_append, List.replicate, List.getElem?_cons_zero, List.getElem?_cons_succ, List.set_cons_zero, List.set_cons_succ, Nat.reduceSub, Nat.reduceAdd, Nat.zero_add]
    refine (fLen_seq (d := .lst (cols.map ntD)) (xs := cols.map ntD) rfl ?_ : fLen [.lst (cols.map ntD)] _ _)
    refine ⟨(Bz.linesL (Bz.arr rows) rows.length (u + 1) W).map ilD, (cols.map ntD).length, rfl, rfl, ?_⟩
    rw [lcu, ← List.map_drop]
    refine fz_loc (mls_un _) ?_
    have hz : ∀ l ∈ (Bz.linesL (Bz.arr rows) rows.length (u + 1) W).drop u, u < l.length ∧ l.getD u 0 = 0 := fun l hl' => by
      obtain ⟨j, hj, e⟩ := List.getElem_of_mem hl'
      rw [List.getElem_drop] at e
      rw [List.length_drop, Bz.lines_len] at hj
      have hu : u + j < rows.length := by omega
      have el : l = Bz.lineL (Bz.arr rows) rows.length (u + 1) (W (u + j)) := by
        have := Bz.lines_at (A := Bz.arr rows) (m := u + 1) (W := W) hu
        rw [List.getD_eq_getElem?_getD, List.getElem?_eq_getElem (by rw [Bz.lines_len]; exact hu)] at this
        rw [← e]; exact this
      rw [el]
      refine ⟨by rw [Bz.line_len]; omega, ?_⟩
      rw [Bz.line_at (by omega)]
      exact t.rest sol hN (by omega) hu
    refine forK_map (fun zs ρ' M' => M' = M ∧ ∃ (rest : List (List Int)) (o : Option Dt), zs = rest.map ilD ∧ (∀ l ∈ rest, u < l.length ∧ l.getD u 0 = 0) ∧ ρ' = [some (mlD rows), some (.int (u : Int)), some (.tup [mlD (Bz.linesL (Bz.arr rows) rows.length (u + 1) W), .lst (cols.map ntD)]), some (mlD (Bz.linesL (Bz.arr rows) rows.length (u + 1) W)), some (.lst (cols.map ntD)), o, none]) (fun zs ρ' M' hj => trivial) (fun x zs ρ' M' hj nxt => ?_) (fun ρ' M' hj => ?_) _ _ _ ⟨rfl, _, none, rfl, hz, rfl⟩
    · obtain ⟨rfl, rest, o, ex, hr', rfl⟩ := hj
      cases rest with
      | nil => cases ex
      | cons l rest =>
        cases ex
        obtain ⟨l1, l2⟩ := hr' l List.mem_cons_self
        have lv : l[u] = 0 := by
          rw [List.getD_eq_getElem?_getD, List.getElem?_eq_getElem l1] at l2; exact l2
        dsimp only [gN, sFor, iRng, dFrz, dFz, sSeq, sNext, sIf, sRet, sSet, sDrop, sRaise, dCall, dFn, dOp, dUn, dVar, dC, aNil, aCons, dTup, dLst, tstD, andT, orT, notT, dAnd, dOr, dNot, dIf, dSM, startD, List.map_cons, List.map_nil, List.length_cons, List.length_nil, List.cons_append, List.nil_append, List.replicate, List.getElem?_cons_zero, List.getElem?_cons_succ, List.set_cons_zero, List.set_cons_succ, Nat.reduceSub, Nat.reduceAdd, Nat.zero_add]
        refine (fIx_seq (d := ilD l) rfl (int_at l1) ?_ : fIx (ilD l) (.int (u : Int)) _ _)
        rw [lv]
        exact ⟨fun z => (nomatch z), fun _ => nxt _ _ ⟨rfl, rest, _, rfl, fun y hy => hr' y (List.mem_cons_of_mem _ hy), rfl⟩⟩
    · obtain ⟨rfl, rest, o, ex, hr', rfl⟩ := hj
      refine ⟨rows, u, B, ρ, cols, qq, d, W, rfl, ro, t, hcols, ?_⟩
      rw [told]
      dsimp only [gN, sFor, iRng, dFrz, dFz, sSeq, sNext, sIf, sRet, sSet, sDrop, sRaise, dCall, dFn, dOp, dUn, dVar, dC, aNil, aCons, dTup, dLst, tstD, andT, orT, notT, dAnd, dOr, dNot, dIf, dSM, startD, List.map_cons, List.map_nil, List.length_cons, List.length_nil, List.cons_append, List.nil_append, List.replicate, List.getElem?_cons_zero, List.getElem?_cons_succ, List.set_cons_zero, List.set_cons_succ, Nat.reduceSub, Nat.reduceAdd, Nat.zero_add]
      refine (fLen_seq (d := .lst (cols.map ntD)) (xs := cols.map ntD) rfl ?_ : fLen [.lst (cols.map ntD)] _ _)
      rw [lcu]
      refine ⟨fun z => ?_, fun _ => h⟩
      have z : (u : Int) < u := of_decide_eq_true z
      omega
end
end Pg


set_option Elab.async false
set_option linter.all false
set_option maxRecDepth 100000
set_option maxHeartbeats 4000000
namespace Pg
open PySem L2 Fr0 Tx
def nth (ns : List Int) (k : Int) : Int := ns.getD k.toNat 0
theorem nth_at {ns : List Int} {k : Int} (h0 : 0 ≤ k) (h2 : k < ns.length) : atI (ns.map Dt.int) k = some (.int (nth ns k)) := by
  have e : (ns.map Dt.int)[k.toNat]? = some (.int (nth ns k)) := by
    rw [List.getElem?_map, List.getElem?_eq_getElem (show k.toNat < ns.length by omega)]
    unfold nth
    rw [List.getD_eq_getElem?_getD, List.getElem?_eq_getElem (show k.toNat < ns.length by omega)]
    rfl
  have := atI_nat e
  rwa [show ((k.toNat : Nat) : Int) = k by omega] at this
def Nm (n : Int) : Prop := 0 ≤ n ∧ n < 10 ^ 40
theorem p40 : CPow 10 40 := ⟨by decide, by decide, by decide⟩
theorem p12 : CPow 10 12 := ⟨by decide, by decide, by decide⟩
theorem nm_big {n : Int} (h : Nm n) : Big n := bg (k := 140) (by unfold Nm at h; omega)
section
variable {P : Program} {w : World} {K : PySem.W.Frag} {mg : Str → Option Value} {base : Heap} {CN : Addr}
def TAt : DF := fun as M q _ => ∃ (ns : List Int) (k : Int), as = [.scr ns, .int k] ∧ ns.length ≤ 63 ∧ 0 ≤ k ∧ k ≤ 200 ∧ ∀ n, Nm n → q (.int n) M
theorem scLawAt : FnScope ["_law_script", "_law_k", "_law_mixed", "_law_cell_here"] ["_law_script", "_law_k"] (defScope sLawAt) := ⟨rfl, rfl, rfl, by decide +kernel, rfl, by decide +kernel, by decide +kernel⟩
theorem ok_LawAt {f : Addr} {fd : FuncData} (F : Fun K "_law_at" "_law_at" sLawAt f fd) (E : Ev K mg CN)  : FnOk P w K mg base (CX1 P w) 1 f fd ["_law_script", "_law_k"] (spD K TAt) := by
  refine F.okD scLawAt (fun ds M q x h => ?_) (fun cdv A outer s H E' hr => ⟨_, (jss_cons (js_if (jt_lt (jv 1) (j_len E.n_len (ja_cons (jv 0) ja_nil (hs := starN)))) (jss_one (js_ret (j_mod (j_ix (jv 0) (jv 1)) (j_pow jint jint)))) jss_nil)
      (jss_cons (js_set (i := 2) scLawAt.nd rfl (Or.inl rfl) (j_add jint (j_mul jint (j_len E.n_len (ja_cons (jv 0) ja_nil (hs := starN))))))
      (jss_cons (js_forK (jk_seq (je_fz (j_slToL (jv 0) jint))) (pg_name (i := 3) scLawAt.nd rfl (Or.inl rfl)) gd_name (jss_one (js_set (i := 2) scLawAt.nd rfl (Or.inl rfl) (j_mod (j_add (j_mul (jv 2) jint) (j_mod (jv 3) (j_pow jint jint))) jint))))
      (jss_one (js_ret (j_mod (j_mul (j_add (jv 2) jint) (j_add (j_mul (jv 1) (jv 1)) jint)) jint)))))), fun ds M q x h => ?_⟩)
  · obtain ⟨ns, k, rfl, _⟩ := h; rfl
  · obtain ⟨ns, k, rfl, nl, hk, k2, h⟩ := h
    have bk : Big k := bg (k := 40) (by omega)
    have bl : Big (ns.length : Int) := bg (k := 40) (by omega)
    dsimp only [gN, sFor, iRng, dFrz, dFz, sSeq, sNext, sIf, sRet, sSet, sDrop, sRaise, dCall, dFn, dOp, dUn, dVar, dC, aNil, aCons, dTup, dLst, tstD, andT, orT, notT, dAnd, dOr, dNot, dIf, dSM, startD, List.map_cons, List.map_nil, List.length_cons, List.length_nil, List.cons_append, List.nil_append, List.replicate, List.getElem?_cons_zero, List.getElem?_cons_succ, List.set_cons_zero, List.set_cons_succ, Nat.reduceSub, Nat.reduceAdd, Nat.zero_add]
    refine (fLen_seq (d := .scr ns) (xs := ns.map .int) rfl ?_ : fLen [.scr ns] M _)
    rw [List.length_map]
    refine ⟨fun h1 => ?_, fun h1 => ?_⟩
    · have h1' : k < ns.length := of_decide_eq_true h1
      refine (fIx_seq (d := .scr ns) rfl (nth_at hk h1') ?_ : fIx (.scr ns) (.int k) M _)
      exact ⟨p40, by decide, h _ ⟨Int.emod_nonneg _ (by decide), Int.emod_lt_of_pos _ (by decide)⟩⟩
    · refine (fLen_seq (d := .scr ns) (xs := ns.map .int) rfl ?_ : fLen [.scr ns] M _)
      rw [List.length_map]
      refine ⟨⟨bg (k := 40) (by decide), bl⟩, ?_⟩
      dsimp only [sForK, iSeqK, dFz, dSlToL]
      dsimp only [gN, sFor, iRng, dFrz, dFz, sSeq, sNext, sIf, sRet, sSet, sDrop, sRaise, dCall, dFn, dOp, dUn, dVar, dC, aNil, aCons, dTup, dLst, tstD, andT, orT, notT, dAnd, dOr, dNot, dIf, dSM, startD, List.map_cons, List.map_nil, List.length_cons, List.length_nil, List.cons_append, List.nil_append, List.replicate, List.getElem?_cons_zero, List.getElem?_cons_succ, List.set_cons_zero, List.set_cons_succ, Nat.reduceSub, Nat.reduceAdd, Nat.zero_add]
      refine ⟨ns.map .int, 6, rfl, rfl, ?_⟩
      rw [← List.map_take]
      refine fz_loc (ints_un _) ?_
      refine forK_map (fun zs ρ' M' => M' = M ∧ ∃ (rest : List Int) (m : Int) (o : Option Dt), zs = rest.map Dt.int ∧ 0 ≤ m ∧ m < 2147483647 ∧ ρ' = [some (.scr ns), some (.int k), some (.int m), o]) (fun zs ρ' M' hj => trivial) (fun x zs ρ' M' hj nxt => ?_) (fun ρ' M' hj => ?_) _ _ _ ⟨rfl, _, _, none, rfl, by omega, by omega, rfl⟩
      · obtain ⟨rfl, rest, m, o, ex, m0, m1, rfl⟩ := hj
        cases rest with
        | nil => cases ex
        | cons c rest =>
          cases ex
          exact ⟨⟨bg (k := 40) (by omega), bg (k := 40) (by decide)⟩, p12, by decide, by decide, nxt _ _ ⟨rfl, rest, _, _, rfl, Int.emod_nonneg _ (by decide), Int.emod_lt_of_pos _ (by decide), rfl⟩⟩
      · obtain ⟨rfl, rest, m, o, ex, m0, m1, rfl⟩ := hj
        have kk : 0 ≤ k * k ∧ k * k ≤ 200 * 200 := ⟨Int.mul_nonneg hk hk, Int.mul_le_mul k2 k2 hk (by decide)⟩
        refine ⟨⟨bk, bk⟩, ⟨bg (k := 40) (by omega), bg (k := 40) (by omega)⟩, by decide, h _ ⟨Int.emod_nonneg _ (by decide), Int.lt_trans (Int.emod_lt_of_pos _ (by decide)) (by decide)⟩⟩
def TLow : DF := fun as M q _ => ∃ t b : Int, as = [.int t, .int b] ∧ 0 < b ∧ Big b ∧ q (frD (frac t b)) M
theorem scLawLowest : FnScope ["_law_top", "_law_bottom", "_law_one", "_law_two"] ["_law_top", "_law_bottom"] (defScope sLawLowest) := ⟨rfl, rfl, rfl, by decide +kernel, rfl, by decide +kernel, by decide +kernel⟩
theorem ok_LawLowest {f : Addr} {fd : FuncData} (F : Fun K "_law_lowest" "_law_lowest" sLawLowest f fd) (E : Ev K mg CN)  : FnOk P w K mg base (CX1 P w) 1 f fd ["_law_top", "_law_bottom"] (spD K TLow) := by
  refine F.okD scLawLowest (fun ds M q x h => ?_) (fun cdv A outer s H E' hr => ⟨_, (jss_cons (js_par (i := 2) (j := 3) scLawLowest.nd rfl rfl (ja_cons (j_abs E.n_abs (ja_cons (jv 0) ja_nil (hs := starN))) (ja_cons (jv 1) ja_nil (hs := starN)) (hs := starF)))
      (jss_cons (js_while (jt_ne hr (jv 3) jint) (jss_one (js_par (i := 2) (j := 3) scLawLowest.nd rfl rfl (ja_cons (jv 3) (ja_cons (j_mod (jv 2) (jv 3)) ja_nil (hs := starB)) (hs := starN)))))
      (jss_one (js_ret (j_tup (ja_cons (j_div (jv 0) (jv 2)) (ja_cons (j_div (jv 1) (jv 2)) ja_nil (hs := starB)) (hs := starB))))))), fun ds M q x h => ?_⟩)
  · obtain ⟨t, b, rfl, _⟩ := h; rfl
  · obtain ⟨t, b, rfl, h0, h1, h⟩ := h
    have ga : g (if t < 0 then -t else t) b = g t b := by
      have := g_abs t b
      rwa [if_neg (show ¬ b < 0 by omega)] at this
    refine ⟨fun m ρ M' => M' = M ∧ ∃ (x y : Int), ρ = [some (.int t), some (.int b), some (.int x), some (.int y)] ∧ 0 ≤ x ∧ 0 ≤ y ∧ g x y = g t b ∧ m = y.toNat, ⟨_, rfl, _, _, rfl, by split <;> omega, by omega, ga, rfl⟩, ?_⟩
    rintro m ρ M' ⟨rfl, x, y, rfl, hx, hy, e, rfl⟩
    refine ⟨fun hb => ?_, fun hb => ?_⟩
    · have hy0 : y ≠ 0 := by simpa using hb
      refine ⟨_, fun ρ' M2 h2 => h2, ?_⟩
      refine ⟨by omega, (x % y).toNat, ?_, rfl, y, x % y, rfl, hy, Int.emod_nonneg _ hy0, ?_, rfl⟩
      · have := Int.emod_lt_of_pos x (show 0 < y by omega)
        have := Int.emod_nonneg x hy0
        omega
      · rw [← Int.fmod_eq_emod_of_nonneg x hy, g_step (by omega)]; exact e
    · have hy0 : y = 0 := by simpa using hb
      subst hy0
      rw [g_zero hx] at e
      subst e
      have hg : 0 < g t b := g_pos (by omega)
      have hle : g t b ≤ b := Int.le_of_dvd h0 (Int.gcd_dvd_right ..)
      have hb : Big (g t b) := Nat.lt_of_le_of_lt (show (g t b).natAbs ≤ b.natAbs by omega) h1
      have e : frac t b = (t / g t b, b / g t b) := by rw [frac_up h0, Int.fdiv_eq_ediv_of_nonneg _ (Int.le_of_lt hg), Int.fdiv_eq_ediv_of_nonneg _ (Int.le_of_lt hg)]
      rw [e] at h
      exact ⟨⟨hg, hb⟩, ⟨hg, hb⟩, (by show 2 ≤ sizeLine; decide), h⟩
def TWide : DF := fun as M q _ => ∃ c : Int, as = [.int c] ∧ Nm c ∧ ∀ u : Nat, 1 ≤ u → u ≤ 12 → q (.int (u : Int)) M
theorem scLawWide : FnScope ["_law_cell_here"] ["_law_cell_here"] (defScope sLawWide) := ⟨rfl, rfl, rfl, by decide +kernel, rfl, by decide +kernel, by decide +kernel⟩
theorem ok_LawWide {f : Addr} {fd : FuncData} (F : Fun K "_law_wide" "_law_wide" sLawWide f fd) (E : Ev K mg CN)  : FnOk P w K mg base (CX1 P w) 1 f fd ["_law_cell_here"] (spD K TWide) := by
  refine F.okD scLawWide (fun ds M q x h => ?_) (fun cdv A outer s H E' hr => ⟨_, (jss_cons (js_if (jt_eq hr (j_mod (j_mod (j_mul (jv 0) jint) jint) jint) jint) (jss_one (js_ret (j_add jint (j_mod (jv 0) jint)))) jss_nil)
      (jss_one (js_ret (j_add jint (j_mod (jv 0) jint))))), fun ds M q x h => ?_⟩)
  · obtain ⟨c, rfl, _⟩ := h; rfl
  · obtain ⟨c, rfl, hc, h⟩ := h
    refine ⟨⟨nm_big hc, bg (k := 40) (by decide)⟩, by decide, by decide, fun _ => ⟨by decide, ?_⟩, fun _ => ⟨by decide, ?_⟩⟩
    · have a0 := Int.emod_nonneg c (show (7 : Int) ≠ 0 by decide)
      have a1 := Int.emod_lt_of_pos c (show (0 : Int) < 7 by decide)
      have := h (6 + c % 7).toNat (by omega) (by omega)
      rwa [show (((6 + c % 7).toNat : Nat) : Int) = 6 + c % 7 by omega] at this
    · have a0 := Int.emod_nonneg c (show (5 : Int) ≠ 0 by decide)
      have a1 := Int.emod_lt_of_pos c (show (0 : Int) < 5 by decide)
      have := h (1 + c % 5).toNat (by omega) (by omega)
      rwa [show (((1 + c % 5).toNat : Nat) : Int) = 1 + c % 5 by omega] at this
def TCell : DF := fun as M q _ => ∃ (ns : List Int) (a k : Int) (u : Nat), as = [.scr ns, .int a, .int k, .int (u : Int)] ∧ ns.length ≤ 63 ∧ 0 ≤ a ∧ a ≤ 8 ∧ 0 ≤ k ∧ k ≤ 160 ∧ ∀ n, Nm n → q (.int n) M
theorem scLawCell : FnScope ["_law_script", "_law_at_here", "_law_k", "_law_wide_here"] ["_law_script", "_law_at_here", "_law_k", "_law_wide_here"] (defScope sLawCell) := ⟨rfl, rfl, rfl, by decide +kernel, rfl, by decide +kernel, by decide +kernel⟩
theorem ok_LawCell {f : Addr} {fd : FuncData} (F : Fun K "_law_cell" "_law_cell" sLawCell f fd) (E : Ev K mg CN) {fLawAt : Addr} {dLawAt : FuncData} (c_LawAt : CalD P w K mg base 1 "_law_at" ["_law_script", "_law_k"] TAt fLawAt dLawAt) : FnOk P w K mg base (CX1 P w) 2 f fd ["_law_script", "_law_at_here", "_law_k", "_law_wide_here"] (spD K TCell) := by
  refine F.okD scLawCell (fun ds M q x h => ?_) (fun cdv A outer s H E' hr => ⟨_, (jss_cons (js_if (jt_lt (jv 3) jint) (jss_one (js_ret (j_fn c_LawAt hr passes1 (ja_cons (jv 0) (ja_cons (j_add (jv 1) (jv 2)) ja_nil (hs := starB)) (hs := starN))))) jss_nil)
      (jss_one (js_ret (j_mod (j_mul (j_fn c_LawAt hr passes1 (ja_cons (jv 0) (ja_cons (j_add (jv 1) (j_mod (jv 2) jint)) ja_nil (hs := starB)) (hs := starN))) (j_add jint (j_mul (j_mul (jv 2) (jv 2)) (jv 2)))) jint)))), fun ds M q x h => ?_⟩)
  · obtain ⟨ns, a, k, u, rfl, _⟩ := h; rfl
  · obtain ⟨ns, a, k, u, rfl, nl, a0, a8, k0, k1, h⟩ := h
    have b0 := Int.emod_nonneg k (show (5 : Int) ≠ 0 by decide)
    have b1 := Int.emod_lt_of_pos k (show (0 : Int) < 5 by decide)
    have kb : Big k := bg (k := 40) (by omega)
    have kk : 0 ≤ k * k ∧ k * k ≤ 160 * 160 := ⟨Int.mul_nonneg k0 k0, Int.mul_le_mul k1 k1 k0 (by decide)⟩
    have kkk : 0 ≤ k * k * k ∧ k * k * k ≤ 160 * 160 * 160 := ⟨Int.mul_nonneg kk.1 k0, Int.mul_le_mul kk.2 k1 k0 (by decide)⟩
    refine ⟨fun _ => ⟨ns, a + k, rfl, nl, by omega, by omega, h⟩, fun _ => ⟨by decide, ns, a + k % 5, rfl, nl, by omega, by omega, fun n hn => ⟨⟨kb, kb⟩, ⟨bg (k := 40) (by omega), kb⟩, ⟨nm_big hn, bg (k := 40) (by omega)⟩, by decide, h _ ⟨Int.emod_nonneg _ (by decide), Int.lt_trans (Int.emod_lt_of_pos _ (by decide)) (by decide)⟩⟩⟩⟩
end
end Pg


set_option Elab.async false
set_option linter.all false
set_option maxRecDepth 100000
set_option maxHeartbeats 4000000
namespace Pg
open PySem L2 Fr0 Tx
theorem p9 : CPow 10 9 := ⟨by decide, by decide, by decide⟩
theorem p30 : CPow 10 30 := ⟨by decide, by decide, by decide⟩
theorem p6 : CPow 10 6 := ⟨by decide, by decide, by decide⟩
theorem p20 : CPow 10 20 := ⟨by decide, by decide, by decide⟩
theorem sel3 {a b c n : Int} {M : Ms} {q : DQ} (h1 : q (.int a) M) (h2 : q (.int b) M) (h3 : q (.int c) M) : fIx (.lst [.int a, .int b, .int c]) (.int (n % 3)) M q := by
  have : n % 3 = ((0 : Nat) : Int) ∨ n % 3 = ((1 : Nat) : Int) ∨ n % 3 = ((2 : Nat) : Int) := by omega
  rcases this with e | e | e <;> rw [e]
  · exact fIx_seq (d := .lst [.int a, .int b, .int c]) rfl (atI_nat (j := 0) rfl) h1
  · exact fIx_seq (d := .lst [.int a, .int b, .int c]) rfl (atI_nat (j := 1) rfl) h2
  · exact fIx_seq (d := .lst [.int a, .int b, .int c]) rfl (atI_nat (j := 2) rfl) h3
theorem sel4 {a b c d n : Int} {M : Ms} {q : DQ} (h1 : q (.int a) M) (h2 : q (.int b) M) (h3 : q (.int c) M) (h4 : q (.int d) M) : fIx (.lst [.int a, .int b, .int c, .int d]) (.int (n % 4)) M q := by
  have : n % 4 = ((0 : Nat) : Int) ∨ n % 4 = ((1 : Nat) : Int) ∨ n % 4 = ((2 : Nat) : Int) ∨ n % 4 = ((3 : Nat) : Int) := by omega
  rcases this with e | e | e | e <;> rw [e]
  · exact fIx_seq (d := .lst [.int a, .int b, .int c, .int d]) rfl (atI_nat (j := 0) rfl) h1
  · exact fIx_seq (d := .lst [.int a, .int b, .int c, .int d]) rfl (atI_nat (j := 1) rfl) h2
  · exact fIx_seq (d := .lst [.int a, .int b, .int c, .int d]) rfl (atI_nat (j := 2) rfl) h3
  · exact fIx_seq (d := .lst [.int a, .int b, .int c, .int d]) rfl (atI_nat (j := 3) rfl) h4
section
variable {P : Program} {w : World} {K : PySem.W.Frag} {mg : Str → Option Value} {base : Heap} {CN : Addr}
structure FrOk (u : Nat) (p : Fr) : Prop where
  pos : 0 < p.2
  le : p.2 ≤ 1000000
  gcd : Int.gcd p.1 p.2 = 1
  top : p.1.natAbs ≤ 10 ^ 30
  one : 5 < u → p.2 = 1 ∧ p.1.natAbs ≤ 9
def TNums : DF := fun as M q _ => ∃ (ns : List Int) (u : Nat), as = [.scr ns, .int (u : Int)] ∧ ns.length ≤ 63 ∧ 1 ≤ u ∧ u ≤ 12 ∧ ∀ due : List Fr, due.length = u → (∀ p ∈ due, FrOk u p) → q (.loc M.length) (M ++ [.lst (due.map frD)])
theorem scLawNumbers : FnScope ["_law_script", "_law_wide_here", "_law_far", "_law_low", "_law_some", "_law_k", "_law_cell_here"] ["_law_script", "_law_wide_here"] (defScope sLawNumbers) := ⟨rfl, rfl, rfl, by decide +kernel, rfl, by decide +kernel, by decide +kernel⟩
theorem ok_LawNumbers {f : Addr} {fd : FuncData} (F : Fun K "_law_numbers" "_law_numbers" sLawNumbers f fd) (E : Ev K mg CN) {fLawAt : Addr} {dLawAt : FuncData} (c_LawAt : CalD P w K mg base 1 "_law_at" ["_law_script", "_law_k"] TAt fLawAt dLawAt) {fLawCell : Addr} {dLawCell : FuncData} (c_LawCell : CalD P w K mg base 2 "_law_cell" ["_law_script", "_law_at_here", "_law_k", "_law_wide_here"] TCell fLawCell dLawCell) {fLawLowest : Addr} {dLawLowest : FuncData} (c_LawLowest : CalD P w K mg base 1 "_law_lowest" ["_law_top", "_law_bottom"] TLow fLawLowest dLawLowest) : FnOk P w K mg base (CX1 P w) 3 f fd ["_law_script", "_law_wide_here"] (spD K TNums) := by
  refine F.okD scLawNumbers (fun ds M q x h => ?_) (fun cdv A outer s H E' hr => ⟨_, (jss_cons (js_set (i := 2) scLawNumbers.nd rfl (Or.inl rfl) (j_ix (j_lst (ja_cons jint (ja_cons (j_pow jint jint) (ja_cons (j_pow jint jint) ja_nil (hs := starB)) (hs := starB)) (hs := starC))) (j_mod (j_fn c_LawAt hr passes1 (ja_cons (jv 0) (ja_cons jint ja_nil (hs := starC)) (hs := starN))) jint)))
      (jss_cons (js_set (i := 3) scLawNumbers.nd rfl (Or.inl rfl) (j_ix (j_lst (ja_cons jint (ja_cons jint (ja_cons (j_pow jint jint) ja_nil (hs := starB)) (hs := starC)) (hs := starC))) (j_mod (j_mod (j_mul (j_fn c_LawAt hr passes1 (ja_cons (jv 0) (ja_cons jint ja_nil (hs := starC)) (hs := starN))) jint) jint) jint)))
      (jss_cons (js_cut (js_if (jt_gt (jv 1) jint) (jss_cons (js_set (i := 2) scLawNumbers.nd rfl (Or.inl rfl) jint)
      (jss_one (js_set (i := 3) scLawNumbers.nd rfl (Or.inl rfl) jint))) jss_nil))
      (jss_cons (js_set (i := 4) scLawNumbers.nd rfl (Or.inl rfl) (j_lstM ja_nil))
      (jss_cons (js_for (ji_range E.n_range (ja_cons (jv 1) ja_nil (hs := starN))) (pg_name (i := 5) scLawNumbers.nd rfl (Or.inl rfl)) gd_name (jss_cons (js_set (i := 6) scLawNumbers.nd rfl (Or.inl rfl) (j_fn c_LawCell hr passes1 (ja_cons (jv 0) (ja_cons jint (ja_cons (jv 5) (ja_cons (jv 1) ja_nil (hs := starN)) (hs := starN)) (hs := starC)) (hs := starN))))
      (jss_one (js_expr (j_append (jv 4) (ja_cons (j_fn c_LawLowest hr passes1 (ja_cons (j_sub (j_mod (jv 6) (j_add (j_mul jint (jv 2)) jint)) (jv 2)) (ja_cons (j_add jint (j_mod (j_mod (j_mul (jv 6) jint) jint) (jv 3))) ja_nil (hs := starB)) (hs := starB))) ja_nil (hs := starF)))))))
      (jss_one (js_ret (jv 4)))))))), fun ds M q x h => ?_⟩)
  · obtain ⟨ns, u, rfl, _⟩ := h; rfl
  · obtain ⟨ns, u, rfl, nl, u1, u12, h⟩ := h
    dsimp only [gN, sFor, iRng, dFrz, dFz, sSeq, sNext, sIf, sRet, sSet, sDrop, sRaise, dCall, dFn, dOp, dUn, dVar, dC, aNil, aCons, dTup, dLst, tstD, andT, orT, notT, dAnd, dOr, dNot, dIf, dSM, startD, List.map_cons, List.map_nil, List.length_cons, List.length_nil, List.cons_append, List.nil_append, List.replicate, List.getElem?_cons_zero, List.getElem?_cons_succ, List.set_cons_zero, List.set_cons_succ, Nat.reduceSub, Nat.reduceAdd, Nat.zero_add]
    refine ⟨p9, p30, by show 3 ≤ sizeLine; decide, ns, 1, rfl, nl, by decide, by decide, fun n1 hn1 => ⟨by decide, ?_⟩⟩
    have key : ∀ far : Int, 1 ≤ far → far ≤ 10 ^ 30 → ∀ low : Int, 1 ≤ low → low ≤ 1000000 → sCut
                                      (sIf (tstD (dOp fGt (dVar 1) (dC (Dt.int 5))))
                                        (sSeq (sSet 2 (dC (Dt.int 9))) (sSet 3 (dC (Dt.int 1)))) sNext)
                                      {
                                        nx :=
                                          sSeq (sSet 4 (dLstM aNil))
                                            (sSeq
                                              (sFor (iRng (aCons (dVar 1) aNil)) (gN 5)
                                                (sSeq
                                                  (sSet 6
                                                    (dCall TCell
                                                      (aCons (dVar 0)
                                                        (aCons (dC (Dt.int 2))
                                                          (aCons (dVar 5) (aCons (dVar 1) aNil))))))
                                                  (sDrop
                                                    (dApp (dVar 4)
                                                      (aCons
                                                        (dCall TLow
                                                          (aCons
                                                            (dOp fSub
                                                              (dOp fMod (dVar 6)
                                                                (dOp fAdd (dOp fMul (dC (Dt.int 2)) (dVar 2))
                                                                  (dC (Dt.int 1))))
                                                              (dVar 2))
                                                            (aCons
                                                              (dOp fAdd (dC (Dt.int 1))
                                                                (dOp fMod
                                                                  (dOp fMod (dOp fMul (dVar 6) (dC (Dt.int 69621)))
                                                                    (dC (Dt.int 1000003)))
                                                                  (dVar 3)))
                                                              aNil)))
                                                        aNil)))))
                                              (sRet (dVar 4)))
                                            { nx := fun x M' => q Dt.non M', rt := q, x := fun _ => x },
                                        rt := q, x := fun _ => x }
                                      [some (Dt.scr ns), some (Dt.int u), some (.int far), some (.int low), none, none, none] M := by
      intro far f1 f2 low l1 l2
      refine ⟨fun ρ' M' => M = M' ∧ ∃ far low : Int, 1 ≤ far ∧ far ≤ 10 ^ 30 ∧ 1 ≤ low ∧ low ≤ 1000000 ∧ (5 < u → far = 9 ∧ low = 1) ∧ ρ' = [some (.scr ns), some (.int u), some (.int far), some (.int low), none, none, none], ⟨fun z => ?_, fun z => ?_⟩, ?_⟩
      · exact ⟨rfl, 9, 1, by decide, by decide, by decide, by decide, fun _ => ⟨rfl, rfl⟩, rfl⟩
      · have z : decide ((u : Int) > 5) = false := z
        have z := of_decide_eq_false z
        exact ⟨rfl, far, low, f1, f2, l1, l2, fun y => absurd y (by omega), rfl⟩
      clear f1 f2 l1 l2 far low
      rintro ρ' M' ⟨rfl, far, low, f1, f2, l1, l2, wid, rfl⟩
      refine ⟨by decide, by omega, ?_⟩
      refine forD_map (fun xs ρ' M' => ∃ (k m : Nat) (due : List Fr) (o1 o2 : Option Dt), xs = rngD (k : Int) m ∧ k + m = u ∧ due.length = k ∧ (∀ p ∈ due, FrOk u p) ∧ M' = M ++ [.lst (due.map frD)] ∧ ρ' = [some (.scr ns), some (.int u), some (.int far), some (.int low), some (.loc M.length), o1, o2]) (fun x xs ρ' M' hj nxt => ?_) (fun ρ' M' hj => ?_) _ _ _ ⟨0, u, [], none, none, by simp, by simp, rfl, fun p hp => (nomatch hp), rfl, rfl⟩
      · obtain ⟨k, m, due, o1, o2, ex, km, dl, hd, rfl, rfl⟩ := hj
        obtain ⟨m', rfl, rfl, rfl⟩ := rngD_cons ex
        refine ⟨ns, 2, k, u, rfl, nl, by decide, by decide, by omega, by omega, fun n hn => ?_⟩
        have m0 := Int.emod_nonneg n (show (2 * far + 1 : Int) ≠ 0 by omega)
        have m1 := Int.emod_lt_of_pos n (show (0 : Int) < 2 * far + 1 by omega)
        have k0 := Int.emod_nonneg (n * 69621 % 1000003) (show low ≠ 0 by omega)
        have k1 := Int.emod_lt_of_pos (n * 69621 % 1000003) (show 0 < low by omega)
        refine ⟨⟨_, _, rfl, at_new⟩, ⟨bg (k := 40) (by decide), bg (k := 110) (by omega)⟩, by omega, ⟨nm_big hn, bg (k := 40) (by decide)⟩, by decide, by omega, _, _, rfl, by omega, bg (k := 40) (by omega), ?_⟩
        refine ⟨M.length, due.map frD, _, rfl, rfl, at_new, ?_, ?_⟩
        · rw [List.length_map]; exact Nat.lt_of_le_of_lt (show due.length ≤ 12 by omega) (by decide)
        rw [set_new]
        have bp : (1 + n * 69621 % 1000003 % low : Int) ≠ 0 := by omega
        have ok : FrOk u (frac (n % (2 * far + 1) - far) (1 + n * 69621 % 1000003 % low)) := by
          have q1 := frac_pos (t := n % (2 * far + 1) - far) bp
          have q2 := frac_le2 (t := n % (2 * far + 1) - far) bp
          have q3 := frac_le1 (t := n % (2 * far + 1) - far) bp
          refine ⟨q1, by omega, frac_low bp, Nat.le_trans q3 (by omega), fun z => ?_⟩
          obtain ⟨e1, e2⟩ := wid z
          exact ⟨by omega, Nat.le_trans q3 (by omega)⟩
        refine nxt _ _ ⟨k + 1, m', due ++ [_], _, _, by rw [Int.natCast_add]; rfl, by omega, by simp [dl], fun p hp => ?_, by rw [List.map_append]; rfl, rfl⟩
        rcases List.mem_append.mp hp with z | z
        · exact hd p z
        · rw [List.mem_singleton] at z; rw [z]; exact ok
      · obtain ⟨k, m, due, o1, o2, ex, km, dl, hd, rfl, rfl⟩ := hj
        have m0 : m = 0 := by
          have := congrArg List.length ex
          rw [rngD_len] at this; exact this.symm
        exact h due (by omega) hd
    refine sel3 ?_ ?_ ?_
    all_goals refine ⟨p6, by show 3 ≤ sizeLine; decide, ns, 1, rfl, nl, by decide, by decide, fun n2 hn2 => ⟨⟨nm_big hn2, bg (k := 40) (by decide)⟩, by decide, by decide, sel3 ?_ ?_ ?_⟩⟩
    all_goals exact key _ (by decide) (by decide) _ (by decide) (by decide)
def TOrder : DF := fun as M q _ => ∃ (c : Int) (n : Nat), as = [.int c, .int (n : Int)] ∧ Nm c ∧ n ≤ 12 ∧ ∀ o : List Nat, o.Perm (List.range n) → q (.loc M.length) (M ++ [.lst (o.map ntD)])
theorem scLawOrder : FnScope ["_law_cell_here", "_law_many", "_law_order_here", "_law_k"] ["_law_cell_here", "_law_many"] (defScope sLawOrder) := ⟨rfl, rfl, rfl, by decide +kernel, rfl, by decide +kernel, by decide +kernel⟩
theorem ok_LawOrder {f : Addr} {fd : FuncData} (F : Fun K "_law_order" "_law_order" sLawOrder f fd) (E : Ev K mg CN)  : FnOk P w K mg base (CX1 P w) 1 f fd ["_law_cell_here", "_law_many"] (spD K TOrder) := by
  refine F.okD scLawOrder (fun ds M q x h => ?_) (fun cdv A outer s H E' hr => ⟨_, (jss_cons (js_set (i := 2) scLawOrder.nd rfl (Or.inl rfl) (j_lstM ja_nil))
      (jss_cons (js_for (ji_range E.n_range (ja_cons (jv 1) ja_nil (hs := starN))) (pg_name (i := 3) scLawOrder.nd rfl (Or.inl rfl)) gd_name (jss_one (js_expr (j_insert (jv 2) (ja_cons (j_mod (j_mod (j_mul (jv 0) (j_add jint (j_mul (jv 3) (jv 3)))) jint) (j_add (jv 3) jint)) (ja_cons (jv 3) ja_nil (hs := starN)) (hs := starB))))))
      (jss_one (js_ret (jv 2))))), fun ds M q x h => ?_⟩)
  · obtain ⟨c, n, rfl, _⟩ := h; rfl
  · obtain ⟨c, n, rfl, hc, n12, h⟩ := h
    refine ⟨by decide, by omega, ?_⟩
    refine forD_map (fun xs ρ' M' => ∃ (k m : Nat) (o : List Nat) (o1 : Option Dt), xs = rngD (k : Int) m ∧ k + m = n ∧ o.Perm (List.range k) ∧ M' = M ++ [.lst (o.map ntD)] ∧ ρ' = [some (.int c), some (.int n), some (.loc M.length), o1]) (fun x xs ρ' M' hj nxt => ?_) (fun ρ' M' hj => ?_) _ _ _ ⟨0, n, [], none, by simp, by simp, .refl _, rfl, rfl⟩
    · obtain ⟨k, m, o, o1, ex, km, hp, rfl, rfl⟩ := hj
      obtain ⟨m', rfl, rfl, rfl⟩ := rngD_cons ex
      have ol : o.length = k := by rw [hp.length_eq, List.length_range]
      have kk : 0 ≤ (k : Int) * k ∧ (k : Int) * k ≤ 12 * 12 := ⟨Int.mul_nonneg (by omega) (by omega), Int.mul_le_mul (by omega) (by omega) (by omega) (by decide)⟩
      have bk : Big (k : Int) := bg (k := 40) (by omega)
      have i0 := Int.emod_nonneg (c * (48271 + (k : Int) * k) % 65537) (show (k : Int) + 1 ≠ 0 by omega)
      have i1 := Int.emod_lt_of_pos (c * (48271 + (k : Int) * k) % 65537) (show (0 : Int) < (k : Int) + 1 by omega)
      refine ⟨⟨_, _, rfl, at_new⟩, ⟨bk, bk⟩, ⟨nm_big hc, bg (k := 40) (by omega)⟩, by decide, by omega, ?_⟩
      refine ⟨M.length, o.map ntD, _, (c * (48271 + (k : Int) * k) % 65537 % ((k : Int) + 1)).toNat, rfl, by rw [Int.toNat_of_nonneg i0], at_new, ?_, ?_, ?_⟩
      · rw [List.length_map]; exact Nat.lt_of_le_of_lt (show o.length ≤ 12 by omega) (by decide)
      · rw [List.length_map]; omega
      rw [set_new]
      generalize (c * (48271 + (k : Int) * k) % 65537 % ((k : Int) + 1)).toNat = i
      refine nxt _ _ ⟨k + 1, m', o.take i ++ k :: o.drop i, _, by rw [Int.natCast_add]; rfl, by omega, ?_, by rw [List.map_append, List.map_cons, List.map_take, List.map_drop]; rfl, rfl⟩
      have p1 : (o.take i ++ k :: o.drop i).Perm (k :: o) := by
        have := List.perm_middle (a := k) (l₁ := o.take i) (l₂ := o.drop i)
        rwa [List.take_append_drop] at this
      rw [List.range_succ]
      exact (p1.trans (hp.cons k)).trans (List.perm_append_singleton k _).symm
    · obtain ⟨k, m, o, o1, ex, km, hp, rfl, rfl⟩ := hj
      have m0 : m = 0 := by
        have := congrArg List.length ex
        rw [rngD_len] at this; exact this.symm
      have : k = n := by omega
      subst this
      exact h o hp
end
end Pg


set_option Elab.async false
set_option linter.all false
set_option maxRecDepth 100000
set_option maxHeartbeats 4000000
namespace Pg
open PySem L2 Fr0 Tx
/-! rows in the store -/
structure RI (E : Ms) (ls : List Nat) (R : List (List Int)) : Prop where
  len : ls.length = R.length
  at_ : ∀ i, i < R.length → E[ls.getD i 0]? = some (MO.lst ((R.getD i []).map Dt.int))
theorem RI.more {E X : Ms} {ls : List Nat} {R : List (List Int)} (h : RI E ls R) : RI (E ++ X) ls R := ⟨h.len, fun i hi => by
  have := h.at_ i hi
  rw [List.getElem?_append_left (by rcases Nat.lt_or_ge (ls.getD i 0) E.length with z | z; · exact z
                                    · rw [List.getElem?_eq_none z] at this; cases this)]
  exact this⟩
theorem RI.app {E : Ms} {ls : List Nat} {R : List (List Int)} {r : List Int} (h : RI E ls R) : RI (E ++ [.lst (r.map Dt.int)]) (ls ++ [E.length]) (R ++ [r]) := ⟨by simp [h.len], fun i hi => by
  rw [List.length_append, List.length_singleton] at hi
  by_cases e : i < R.length
  · have := h.more (X := [.lst (r.map Dt.int)]).at_ i e
    rw [List.getD_eq_getElem?_getD, List.getD_eq_getElem?_getD] at this ⊢
    rw [List.getElem?_append_left (l₁ := ls) (by rw [h.len]; exact e), List.getElem?_append_left (l₁ := R) e]
    exact this
  · have : i = R.length := by omega
    subst this
    rw [List.getD_eq_getElem?_getD, List.getD_eq_getElem?_getD, List.getElem?_append_right (l₁ := ls) (by rw [h.len]; exact Nat.le_refl _), List.getElem?_append_right (l₁ := R) (Nat.le_refl _), h.len]
    simp⟩
theorem RI.set {E : Ms} {ls : List Nat} {R : List (List Int)} {r : List Int} {k : Nat} (h : RI E ls R) : RI (E ++ [.lst (r.map Dt.int)]) (ls.set k E.length) (R.set k r) := ⟨by simp [h.len], fun i hi => by
  rw [List.length_set] at hi
  have hi' : i < ls.length := by rw [h.len]; exact hi
  rw [List.getD_eq_getElem?_getD, List.getD_eq_getElem?_getD, List.getElem?_set, List.getElem?_set]
  by_cases e : k = i
  · subst e
    rw [if_pos rfl, if_pos rfl, if_pos hi', if_pos hi]
    simp
  · rw [if_neg e, if_neg e]
    have := h.more (X := [.lst (r.map Dt.int)]).at_ i hi
    rw [List.getD_eq_getElem?_getD, List.getD_eq_getElem?_getD] at this
    exact this⟩
theorem at_cons {M E : Ms} {o c : MO} {i : Nat} (h : E[i]? = some o) : (M ++ c :: E)[M.length + 1 + i]? = some o := by
  rw [List.getElem?_append_right (by omega), show M.length + 1 + i - M.length = i + 1 by omega, List.getElem?_cons_succ]; exact h
theorem at_end {M E : Ms} {o c : MO} : (M ++ c :: (E ++ [o]))[M.length + 1 + E.length]? = some o := at_cons (by simp)
theorem set_end {M E : Ms} {o c p : MO} : (M ++ c :: (E ++ [o])).set (M.length + 1 + E.length) p = M ++ c :: (E ++ [p]) := by
  rw [List.set_append_right (h := by omega), show M.length + 1 + E.length - M.length = E.length + 1 by omega, List.set_cons_succ]; simp [List.set_append]
def lcD (n : Nat) (i : Nat) : Dt := .loc (n + 1 + i)
/-! what the rows know -/
def Ker (R : List (List Int)) (u : Nat) : Prop := ∀ y : Bz.Row, (∀ r ∈ R, Bz.ssum (fun x => r.getD x 0 * y x) u = 0) → ∀ x, x < u → y x = 0
structure Rws (R : List (List Int)) (u : Nat) (B : Int) : Prop where
  wid : ∀ r ∈ R, r.length = u
  ab : ∀ r ∈ R, ∀ x ∈ r, Bz.Ab x B
theorem Rws.app {R : List (List Int)} {u : Nat} {B : Int} {r : List Int} (h : Rws R u B) (h1 : r.length = u) (h2 : ∀ x ∈ r, Bz.Ab x B) : Rws (R ++ [r]) u B := ⟨fun x hx => by
  rcases List.mem_append.mp hx with z | z
  · exact h.wid x z
  · rw [List.mem_singleton] at z; rw [z]; exact h1, fun x hx => by
  rcases List.mem_append.mp hx with z | z
  · exact h.ab x z
  · rw [List.mem_singleton] at z; rw [z]; exact h2⟩
theorem Rws.set {R : List (List Int)} {u k : Nat} {B : Int} {r : List Int} (h : Rws R u B) (h1 : r.length = u) (h2 : ∀ x ∈ r, Bz.Ab x B) : Rws (R.set k r) u B := ⟨fun x hx => by
  rcases List.mem_or_eq_of_mem_set hx with z | z
  · exact h.wid x z
  · rw [z]; exact h1, fun x hx => by
  rcases List.mem_or_eq_of_mem_set hx with z | z
  · exact h.ab x z
  · rw [z]; exact h2⟩
theorem Rws.le {R : List (List Int)} {u : Nat} {B C : Int} (h : Rws R u B) (hc : B ≤ C) : Rws R u C := ⟨h.wid, fun r hr x hx => by
  obtain ⟨a, b⟩ := h.ab r hr x hx
  exact ⟨by omega, by omega⟩⟩
theorem Rws.at_ {R : List (List Int)} {u k x : Nat} {B : Int} (h : Rws R u B) (hk : k < R.length) (hx : x < u) : Bz.Ab ((R.getD k []).getD x 0) B := by
  have m : R.getD k [] ∈ R := by rw [List.getD_eq_getElem?_getD, List.getElem?_eq_getElem hk]; exact List.getElem_mem hk
  refine h.ab _ m _ ?_
  rw [List.getD_eq_getElem?_getD (l := R.getD k []), List.getElem?_eq_getElem (by rw [h.wid _ m]; exact hx)]
  exact List.getElem_mem _
theorem Ker.set {R : List (List Int)} {u k j : Nat} {c : Int} {r : List Int} (h : Ker R u) (hk : k < R.length) (hj : j < R.length) (hkj : k ≠ j)
    (hr : ∀ x, x < u → r.getD x 0 = (R.getD k []).getD x 0 + c * (R.getD j []).getD x 0) : Ker (R.set k r) u := fun y hy => by
  have aj : Bz.ssum (fun x => (R.getD j []).getD x 0 * y x) u = 0 := by
    refine hy _ ?_
    have : (R.set k r)[j]? = some (R.getD j []) := by
      rw [List.getElem?_set_ne hkj, List.getD_eq_getElem?_getD, List.getElem?_eq_getElem hj]; rfl
    exact List.mem_of_getElem? this
  have ar : Bz.ssum (fun x => r.getD x 0 * y x) u = 0 := by
    refine hy _ ?_
    have : (R.set k r)[k]? = some r := by rw [List.getElem?_set_self hk]
    exact List.mem_of_getElem? this
  have ak : Bz.ssum (fun x => (R.getD k []).getD x 0 * y x) u = 0 := by
    have e : Bz.ssum (fun x => r.getD x 0 * y x) u = Bz.ssum (fun x => (R.getD k []).getD x 0 * y x + c * ((R.getD j []).getD x 0 * y x)) u := Bz.ssum_congr fun x hx => by
      rw [hr x hx, Int.add_mul, Int.mul_assoc]
    rw [e, Bz.ssum_add, Bz.ssum_mul, aj] at ar
    omega
  refine h y fun s hs => ?_
  obtain ⟨i, hi, e⟩ := List.getElem_of_mem hs
  by_cases z : i = k
  · subst z
    rw [← e]
    rw [List.getD_eq_getElem?_getD, List.getElem?_eq_getElem hi] at ak
    exact ak
  · refine hy s ?_
    have : (R.set k r)[i]? = some s := by rw [List.getElem?_set_ne (Ne.symm z), List.getElem?_eq_getElem hi, e]
    exact List.mem_of_getElem? this
theorem Ker.sub {R S : List (List Int)} {u : Nat} (h : Ker R u) (hs : ∀ r ∈ R, r ∈ S) : Ker S u := fun y hy => h y fun r hr => hy r (hs r hr)
/-- rows by corners: row k has nothing at the first k of the order, something at the k-th -/
def Tri (R : List (List Int)) (o : List Nat) : Prop := ∀ k, k < R.length → (∀ j, j < k → (R.getD k []).getD (o.getD j 0) 0 = 0) ∧ (R.getD k []).getD (o.getD k 0) 0 ≠ 0
theorem Tri.ker {R : List (List Int)} {o : List Nat} {u : Nat} (h : Tri R o) (hl : R.length = u) (ho : o.Perm (List.range u)) : Ker R u := fun y hy => by
  have ol : o.length = u := by rw [ho.length_eq, List.length_range]
  have key : ∀ n, n ≤ u → ∀ j, u - n ≤ j → j < u → y (o.getD j 0) = 0 := by
    intro n
    induction n with
    | zero => intro _ j h1 h2; omega
    | succ n ih =>
      intro hn j h1 h2
      rcases Nat.lt_or_ge j (u - n) with z | z
      · obtain ⟨t1, t2⟩ := h j (by omega)
        have mj : o.getD j 0 ∈ o := by rw [List.getD_eq_getElem?_getD, List.getElem?_eq_getElem (by omega)]; exact List.getElem_mem _
        have xj : o.getD j 0 < u := List.mem_range.mp (ho.mem_iff.mp mj)
        have mr : R.getD j [] ∈ R := by rw [List.getD_eq_getElem?_getD, List.getElem?_eq_getElem (by omega)]; exact List.getElem_mem _
        have s := hy _ mr
        rw [Bz.ssum_one xj fun x hx ne => ?_] at s
        · rcases Int.mul_eq_zero.mp s with e | e
          · exact absurd e t2
          · exact e
        · have mx : x ∈ o := ho.mem_iff.mpr (List.mem_range.mpr hx)
          obtain ⟨i, hi, e⟩ := List.getElem_of_mem mx
          have gi : o.getD i 0 = x := by rw [List.getD_eq_getElem?_getD, List.getElem?_eq_getElem hi]; exact e
          rcases Nat.lt_trichotomy i j with c | c | c
          · have := t1 i c
            rw [gi] at this; rw [this, Int.zero_mul]
          · subst c; exact absurd gi.symm ne
          · have := ih (by omega) i (by omega) (by omega)
            rw [gi] at this; rw [this, Int.mul_zero]
      · exact ih (by omega) j z h2
  intro x hx
  have mx : x ∈ o := ho.mem_iff.mpr (List.mem_range.mpr hx)
  obtain ⟨i, hi, e⟩ := List.getElem_of_mem mx
  have gi : o.getD i 0 = x := by rw [List.getD_eq_getElem?_getD, List.getElem?_eq_getElem hi]; exact e
  have := key u (Nat.le_refl _) i (by omega) (by omega)
  rwa [gi] at this
theorem sel4v {a b c d n : Int} {M : Ms} {q : DQ} (h : ∀ v : Int, v = a ∨ v = b ∨ v = c ∨ v = d → q (.int v) M) : fIx (.lst [.int a, .int b, .int c, .int d]) (.int (n % 4)) M q :=
  sel4 (h _ (.inl rfl)) (h _ (.inr (.inl rfl))) (h _ (.inr (.inr (.inl rfl)))) (h _ (.inr (.inr (.inr rfl))))
theorem len_mid {M E : Ms} {c : MO} : (M ++ c :: E).length = M.length + 1 + E.length := by rw [List.length_append, List.length_cons]; omega
theorem app_mid {M E : Ms} {c o : MO} : (M ++ c :: E) ++ [o] = M ++ c :: (E ++ [o]) := by rw [List.append_assoc, List.cons_append]
theorem nt_at {o : List Nat} {j : Nat} (h : j < o.length) : atI (o.map ntD) (j : Int) = some (.int (o.getD j 0 : Nat)) := atI_nat (by rw [List.getElem?_map, List.getElem?_eq_getElem h, List.getD_eq_getElem?_getD, List.getElem?_eq_getElem h]; rfl)
theorem lc_at {n : Nat} {ls : List Nat} {j : Nat} (h : j < ls.length) : atI (ls.map (lcD n)) (j : Int) = some (lcD n (ls.getD j 0)) := atI_nat (by rw [List.getElem?_map, List.getElem?_eq_getElem h, List.getD_eq_getElem?_getD, List.getElem?_eq_getElem h]; rfl)
theorem seq_at {M : Ms} {k : Nat} {xs : List Dt} (h : M[k]? = some (MO.lst xs)) : seqD M (.loc k) = some xs := by
  show (match M[k]? with | some (MO.lst xs) => some xs | _ => none) = some xs
  rw [h]
theorem in_at {l : List Int} {j : Nat} (h : j < l.length) : atI (l.map Dt.int) (j : Int) = some (.int (l.getD j 0)) := by
  rw [int_at h, List.getD_eq_getElem?_getD, List.getElem?_eq_getElem h]; rfl
theorem RI.read {M E : Ms} {ls : List Nat} {R : List (List Int)} {k c u : Nat} {q : DQ} (h : RI E ls R) (hk : k < R.length) (hc : c < (R.getD k []).length) (hq : q (.int ((R.getD k []).getD c 0)) (M ++ MO.lst (ls.map (lcD M.length)) :: E)) :
    fIx (.loc M.length) (.int (k : Int)) (M ++ MO.lst (ls.map (lcD M.length)) :: E) (fun d M1 => fIx d (.int (c : Int)) M1 q) := by
  refine fIx_seq (seq_at at_mid) (lc_at (by rw [h.len]; exact hk)) ?_
  exact fIx_seq (d := lcD M.length (ls.getD k 0)) (seq_at (at_cons (h.at_ k hk))) (in_at hc) hq
theorem len_at {R : List (List Int)} {u k : Nat} {B : Int} (h : Rws R u B) (hk : k < R.length) : (R.getD k []).length = u := by
  refine h.wid _ ?_
  rw [List.getD_eq_getElem?_getD, List.getElem?_eq_getElem hk]; exact List.getElem_mem hk
theorem getD_map {f : Nat → Int} {u x : Nat} (h : x < u) : ((List.range u).map f).getD x 0 = f x := by
  rw [List.getD_eq_getElem?_getD, List.getElem?_map, List.getElem?_range h]; rfl
end Pg


set_option Elab.async false
set_option linter.all false
set_option maxRecDepth 100000
set_option maxHeartbeats 4000000
namespace Pg
open PySem L2 Fr0 Tx
section
variable {P : Program} {w : World} {K : PySem.W.Frag} {mg : Str → Option Value} {base : Heap} {CN : Addr}
def TCorner : DF := fun as M q _ => ∃ (ns : List Int) (u : Nat), as = [.scr ns, .int (u : Int)] ∧ ns.length ≤ 63 ∧ 1 ≤ u ∧ u ≤ 12 ∧ ∀ (E : Ms) (ls : List Nat) (R : List (List Int)) (F : Int), 1 ≤ F → F ≤ 10 ^ 20 → (5 < u → F ≤ 9) → RI E ls R → R.length = u → Rws R u (F * 4 ^ 12) → Ker R u → q (.loc M.length) (M ++ MO.lst (ls.map (lcD M.length)) :: E)
theorem scLawCorner : FnScope ["_law_script", "_law_wide_here", "_law_order_here", "_law_far", "_law_rows_here", "_law_k", "_law_row", "_law_j", "_law_cell_here", "_law_number"] ["_law_script", "_law_wide_here"] (defScope sLawCorner) := ⟨rfl, rfl, rfl, by decide +kernel, rfl, by decide +kernel, by decide +kernel⟩
theorem ok_LawCorner {f : Addr} {fd : FuncData} (F : Fun K "_law_corner" "_law_corner" sLawCorner f fd) (E : Ev K mg CN) {fLawOrder : Addr} {dLawOrder : FuncData} (c_LawOrder : CalD P w K mg base 1 "_law_order" ["_law_cell_here", "_law_many"] TOrder fLawOrder dLawOrder) {fLawAt : Addr} {dLawAt : FuncData} (c_LawAt : CalD P w K mg base 1 "_law_at" ["_law_script", "_law_k"] TAt fLawAt dLawAt) {fLawCell : Addr} {dLawCell : FuncData} (c_LawCell : CalD P w K mg base 2 "_law_cell" ["_law_script", "_law_at_here", "_law_k", "_law_wide_here"] TCell fLawCell dLawCell) : FnOk P w K mg base (CX1 P w) 3 f fd ["_law_script", "_law_wide_here"] (spD K TCorner) := by
  refine F.okD scLawCorner (fun ds M q x h => ?_) (fun cdv A outer s H E' hr => ⟨_, (jss_cons (js_set (i := 2) scLawCorner.nd rfl (Or.inl rfl) (je_fz (j_fn c_LawOrder hr passes1 (ja_cons (j_fn c_LawAt hr passes1 (ja_cons (jv 0) (ja_cons jint ja_nil (hs := starC)) (hs := starN))) (ja_cons (jv 1) ja_nil (hs := starN)) (hs := starF)))))
      (jss_cons (js_set (i := 3) scLawCorner.nd rfl (Or.inl rfl) (j_ix (j_lst (ja_cons jint (ja_cons jint (ja_cons jint (ja_cons (j_pow jint jint) ja_nil (hs := starB)) (hs := starC)) (hs := starC)) (hs := starC))) (j_mod (j_mod (j_mul (j_fn c_LawAt hr passes1 (ja_cons (jv 0) (ja_cons jint ja_nil (hs := starC)) (hs := starN))) jint) jint) jint)))
      (jss_cons (js_cut (js_if (jt_gt (jv 1) jint) (jss_one (js_set (i := 3) scLawCorner.nd rfl (Or.inl rfl) (j_min E.n_min (ja_cons (jv 3) (ja_cons jint ja_nil (hs := starC)) (hs := starN))))) jss_nil))
      (jss_cons (js_set (i := 4) scLawCorner.nd rfl (Or.inr rfl) (j_lstM ja_nil))
      (jss_cons (js_for (ji_range E.n_range (ja_cons (jv 1) ja_nil (hs := starN))) (pg_name (i := 5) scLawCorner.nd rfl (Or.inr rfl)) gd_name (jss_cons (js_set (i := 6) scLawCorner.nd rfl (Or.inl rfl) (j_repM (j_const 3 (d := .lst [.int 0]) (by rfl)) (jv 1)))
      (jss_cons (js_for (ji_range2 E.n_range (ja_cons (jv 5) (ja_cons (jv 1) ja_nil (hs := starN)) (hs := starN))) (pg_name (i := 7) scLawCorner.nd rfl (Or.inr rfl)) gd_name (jss_one (js_setix (jv 6) (j_ix (jv 2) (jv 7)) (j_sub (j_mod (j_fn c_LawCell hr passes1 (ja_cons (jv 0) (ja_cons jint (ja_cons (j_add (j_mul (jv 1) (jv 5)) (jv 7)) (ja_cons (jv 1) ja_nil (hs := starN)) (hs := starB)) (hs := starC)) (hs := starN))) (j_add (j_mul jint (jv 3)) jint)) (jv 3)))))
      (jss_cons (js_cut (js_if (jt_eq hr (j_ix (jv 6) (j_ix (jv 2) (jv 5))) jint) (jss_one (js_setix (jv 6) (j_ix (jv 2) (jv 5)) jint)) jss_nil))
      (jss_one (js_expr (j_append (jv 4) (ja_cons (jv 6) ja_nil (hs := starN)))))))))
      (jss_cons (js_forK (jk_seq (je_fz (j_slBothL (jv 0) jint jint))) (pg_name (i := 8) scLawCorner.nd rfl (Or.inl rfl)) gd_name (jss_cons (js_set (i := 9) scLawCorner.nd rfl (Or.inr rfl) (j_mod (jv 8) (j_pow jint jint)))
      (jss_cons (js_set (i := 5) scLawCorner.nd rfl (Or.inr rfl) (j_mod (jv 9) (jv 1)))
      (jss_cons (js_set (i := 7) scLawCorner.nd rfl (Or.inr rfl) (j_mod (j_mod (j_mul (jv 9) jint) jint) (jv 1)))
      (jss_one (js_if (jt_ne hr (jv 5) (jv 7)) (jss_one (js_setix (jv 4) (jv 5) (j_compM (ys := ["_law_rows_here", "_law_k", "_law_j", "_law_number"]) (caps := [4, 5, 7, 9]) ⟨rfl, by decide +kernel, by decide +kernel, rfl, (by show ∀ p : Str × NameKind, p ∈ _ → p.2 = NameKind.free → List.lookup p.1 (defScope sLawCorner).names = some .cell; decide +kernel), by decide +kernel, (by show ∀ q : Str × Nat, q ∈ _ → (["_law_script", "_law_wide_here", "_law_order_here", "_law_far", "_law_rows_here", "_law_k", "_law_row", "_law_j", "_law_cell_here", "_law_number"] : List Str)[q.2]? = some q.1 ∧ List.lookup q.1 (defScope sLawCorner).names = some .cell ∧ _; decide +kernel), rfl⟩ (ji_range E.n_range (ja_cons (jv 1) ja_nil (hs := starN))) (fun C s H fp => (j_add (j_ix (j_ix (jv 1) (jv 2)) (jv 0)) (j_mul (j_sub (j_mod (j_mod (j_mul (jv 4) jint) jint) jint) jint) (j_ix (j_ix (jv 1) (jv 3)) (jv 0)))))))) jss_nil))))))
      (jss_one (js_ret (jv 4))))))))), fun ds M q x h => ?_⟩)
  · obtain ⟨ns, u, rfl, _⟩ := h; rfl
  · obtain ⟨ns, u, rfl, nl, u1, u12, h⟩ := h
    dsimp only [gN, sFor, iRng, dFrz, dFz, sSeq, sNext, sIf, sRet, sSet, sDrop, sRaise, dCall, dFn, dOp, dUn, dVar, dC, aNil, aCons, dTup, dLst, tstD, andT, orT, notT, dAnd, dOr, dNot, dIf, dSM, startD, List.map_cons, List.map_nil, List.length_cons, List.length_nil, List.cons_append, List.nil_append, List.replicate, List.getElem?_cons_zero, List.getElem?_cons_succ, List.set_cons_zero, List.set_cons_succ, Nat.reduceSub, Nat.reduceAdd, Nat.zero_add]
    refine ⟨ns, 7, rfl, nl, by decide, by decide, fun n7 hn7 => ?_⟩
    refine ⟨n7, u, rfl, hn7, u12, fun o ho => ?_⟩
    have ol : o.length = u := by rw [ho.length_eq, List.length_range]
    have ond : o.Nodup := ho.nodup_iff.mpr List.nodup_range
    have om : ∀ j, j < u → o.getD j 0 < u := fun j hj => by
      have mj : o.getD j 0 ∈ o := by rw [List.getD_eq_getElem?_getD, List.getElem?_eq_getElem (by omega)]; exact List.getElem_mem _
      exact List.mem_range.mp (ho.mem_iff.mp mj)
    have oi : ∀ i j, i < u → j < u → o.getD i 0 = o.getD j 0 → i = j := fun i j hi hj e => by
      rw [List.getD_eq_getElem?_getD, List.getElem?_eq_getElem (by omega), List.getD_eq_getElem?_getD, List.getElem?_eq_getElem (by omega)] at e
      refine (List.getElem?_inj (l := o) (show i < o.length by omega) ond).mp ?_
      rw [List.getElem?_eq_getElem (show i < o.length by omega), List.getElem?_eq_getElem (show j < o.length by omega)]
      exact congrArg some e
    refine fz_loc (nats_un _) ?_
    refine ⟨p20, by show 4 ≤ sizeLine; decide, ns, 7, rfl, nl, by decide, by decide, fun n8 hn8 => ⟨⟨nm_big hn8, bg (k := 40) (by decide)⟩, by decide, by decide, sel4v fun f0 hf0 => ?_⟩⟩
    have f1 : 1 ≤ f0 ∧ f0 ≤ 10 ^ 20 := by
      rcases hf0 with rfl | rfl | rfl | rfl <;> decide
    clear hf0
    refine ⟨fun ρ' M' => M = M' ∧ ∃ far : Int, 1 ≤ far ∧ far ≤ 10 ^ 20 ∧ (5 < u → far ≤ 9) ∧ ρ' = [some (.scr ns), some (.int u), some (.lst (o.map ntD)), some (.int far), none, none, none, none, none, none], ⟨fun z => ?_, fun z => ?_⟩, ?_⟩
    · refine ⟨rfl, if (9 : Int) < f0 then 9 else f0, ?_, ?_, fun _ => ?_, rfl⟩ <;> (split <;> omega)
    · have z : decide ((u : Int) > 5) = false := z
      have z := of_decide_eq_false z
      exact ⟨rfl, f0, f1.1, f1.2, fun y => absurd y (by omega), rfl⟩
    clear f1 f0
    rintro ρ' M' ⟨rfl, far, f1, f2, f9, rfl⟩
    refine ⟨by decide, by omega, ?_⟩
    refine forD_map (fun xs ρ' M' => ∃ (k m : Nat) (E : Ms) (ls : List Nat) (R : List (List Int)) (o5 o6 o7 : Option Dt), xs = rngD (k : Int) m ∧ k + m = u ∧ R.length = k ∧ RI E ls R ∧ Rws R u far ∧ Tri R o ∧ M' = M ++ MO.lst (ls.map (lcD M.length)) :: E ∧ ρ' = [some (.scr ns), some (.int u), some (.lst (o.map ntD)), some (.int far), some (.loc M.length), o5, o6, o7, none, none]) (fun x xs ρ' M' hj nxt => ?_) (fun ρ' M' hj => ?_) _ _ _ ⟨0, u, [], [], [], none, none, none, by simp, by simp, rfl, ⟨rfl, fun i hi => (nomatch hi)⟩, ⟨fun r hr => (nomatch hr), fun r hr => (nomatch hr)⟩, fun k hk => (nomatch hk), rfl, rfl⟩
    · obtain ⟨k, m, E, ls, R, o5, o6, o7, ex, km, rl, ri, rw', tri, rfl, rfl⟩ := hj
      obtain ⟨m', rfl, rfl, rfl⟩ := rngD_cons ex
      have ku : k < u := by omega
      refine ⟨[.int 0], u, rfl, rfl, by omega, by omega, ?_, ?_⟩
      · show 1 * ((u : Int)).toNat ≤ sizeLine
        exact Nat.le_trans (show _ ≤ 12 by omega) (by decide)
      rw [show ((u : Int)).toNat = u by omega, rep_flat, len_mid, app_mid]
      refine ⟨by omega, ?_⟩
      refine forD_map (fun xs ρ' M' => ∃ (j m2 : Nat) (row : List Int) (o7 : Option Dt), xs = rngD (j : Int) m2 ∧ j + m2 = u ∧ k ≤ j ∧ row.length = u ∧ (∀ x ∈ row, Bz.Ab x far) ∧ (∀ i, i < k → row.getD (o.getD i 0) 0 = 0) ∧ M' = M ++ MO.lst (ls.map (lcD M.length)) :: (E ++ [.lst (row.map Dt.int)]) ∧ ρ' = [some (.scr ns), some (.int u), some (.lst (o.map ntD)), some (.int far), some (.loc M.length), some (.int k), some (.loc (M.length + 1 + E.length)), o7, none, none]) (fun x xs ρ' M' hj nxt => ?_) (fun ρ' M' hj => ?_) _ _ _ ⟨k, u - k, List.replicate u 0, o7, by rw [show ((u : Int) - (k : Int)).toNat = u - k by omega], by omega, Nat.le_refl _, by simp, fun x hx => by rw [List.eq_of_mem_replicate hx]; exact ⟨by omega, by omega⟩, fun i hi => by rw [List.getD_eq_getElem?_getD, List.getElem?_replicate]; split <;> rfl, by rw [List.map_replicate], rfl⟩
      · obtain ⟨j, m2, row, o7, ex, jm, kj, rwl, rab, r0, rfl, rfl⟩ := hj
        obtain ⟨m3, rfl, rfl, rfl⟩ := rngD_cons ex
        have ju : j < u := by omega
        have uk : 0 ≤ (u : Int) * k ∧ (u : Int) * k ≤ 12 * 11 := ⟨Int.mul_nonneg (by omega) (by omega), Int.mul_le_mul (by omega) (by omega) (by omega) (by decide)⟩
        dsimp only [sSetIx]
        dsimp only [gN, sFor, iRng, dFrz, dFz, sSeq, sNext, sIf, sRet, sSet, sDrop, sRaise, dCall, dFn, dOp, dUn, dVar, dC, aNil, aCons, dTup, dLst, tstD, andT, orT, notT, dAnd, dOr, dNot, dIf, dSM, startD, List.map_cons, List.map_nil, List.length_cons, List.length_nil, List.cons_append, List.nil_append, List.replicate, List.getElem?_cons_zero, List.getElem?_cons_succ, List.set_cons_zero, List.set_cons_succ, Nat.reduceSub, Nat.reduceAdd, Nat.zero_add]
        refine ⟨⟨bg (k := 40) (by omega), bg (k := 40) (by omega)⟩, ns, 8, (u : Int) * k + j, u, rfl, nl, by decide, by decide, by omega, by omega, fun n hn => ?_⟩
        have m0 := Int.emod_nonneg n (show (2 * far + 1 : Int) ≠ 0 by omega)
        have m1 := Int.emod_lt_of_pos n (show (0 : Int) < 2 * far + 1 by omega)
        refine ⟨⟨bg (k := 40) (by decide), bg (k := 110) (by omega)⟩, by omega, ?_⟩
        dsimp only [fSub]
        refine (fIx_seq (d := .lst (o.map ntD)) rfl (nt_at (by omega)) ?_ : fIx (.lst (o.map ntD)) (.int (j : Int)) _ _)
        refine ⟨M.length + 1 + E.length, _, _, o.getD j 0, rfl, rfl, at_end, ?_, ?_⟩
        · rw [List.length_map, rwl]; exact ix_nat (om j ju)
        rw [set_end, ← List.map_set]
        refine nxt _ _ ⟨j + 1, m3, _, _, by rw [Int.natCast_add]; rfl, by omega, by omega, by rw [List.length_set]; exact rwl, fun x hx => ?_, fun i hi => ?_, rfl, rfl⟩
        · rcases List.mem_or_eq_of_mem_set hx with z | z
          · exact rab x z
          · rw [z]; exact ⟨by omega, by omega⟩
        · rw [List.getD_eq_getElem?_getD, List.getElem?_set_ne (fun z => absurd (oi _ _ ju (by omega) z) (by omega)), ← List.getD_eq_getElem?_getD]
          exact r0 i hi
      · obtain ⟨j, m2, row, o7, ex, jm, kj, rwl, rab, r0, rfl, rfl⟩ := hj
        have gk : o.getD k 0 < row.length := by rw [rwl]; exact om k ku
        refine ⟨fun ρ' M' => ∃ row : List Int, row.length = u ∧ (∀ x ∈ row, Bz.Ab x far) ∧ (∀ i, i < k → row.getD (o.getD i 0) 0 = 0) ∧ row.getD (o.getD k 0) 0 ≠ 0 ∧ M' = M ++ MO.lst (ls.map (lcD M.length)) :: (E ++ [.lst (row.map Dt.int)]) ∧ ρ' = [some (.scr ns), some (.int u), some (.lst (o.map ntD)), some (.int far), some (.loc M.length), some (.int k), some (.loc (M.length + 1 + E.length)), o7, none, none], ?_, ?_⟩
        · dsimp only [sIf, sSetIx]
          dsimp only [gN, sFor, iRng, dFrz, dFz, sSeq, sNext, sIf, sRet, sSet, sDrop, sRaise, dCall, dFn, dOp, dUn, dVar, dC, aNil, aCons, dTup, dLst, tstD, andT, orT, notT, dAnd, dOr, dNot, dIf, dSM, startD, List.map_cons, List.map_nil, List.length_cons, List.length_nil, List.cons_append, List.nil_append, List.replicate, List.getElem?_cons_zero, List.getElem?_cons_succ, List.set_cons_zero, List.set_cons_succ, Nat.reduceSub, Nat.reduceAdd, Nat.zero_add]
          refine (fIx_seq (d := .lst (o.map ntD)) rfl (nt_at (by omega)) ?_ : fIx (.lst (o.map ntD)) (.int (k : Int)) _ _)
          refine (fIx_seq (seq_at at_end) (in_at gk) ?_ : fIx (.loc (M.length + 1 + E.length)) (.int _) _ _)
          refine ⟨fun z => ?_, fun z => ?_⟩
          · refine (fIx_seq (d := .lst (o.map ntD)) rfl (nt_at (by omega)) ?_ : fIx (.lst (o.map ntD)) (.int (k : Int)) _ _)
            refine ⟨M.length + 1 + E.length, _, _, o.getD k 0, rfl, rfl, at_end, ?_, ?_⟩
            · rw [List.length_map, rwl]; exact ix_nat (om k ku)
            rw [set_end, show (Dt.int 1 : Dt) = Dt.int (1 : Int) from rfl, ← List.map_set]
            refine ⟨_, by rw [List.length_set]; exact rwl, fun x hx => ?_, fun i hi => ?_, ?_, rfl, rfl⟩
            · rcases List.mem_or_eq_of_mem_set hx with z | z
              · exact rab x z
              · rw [z]; exact ⟨by omega, by omega⟩
            · rw [List.getD_eq_getElem?_getD, List.getElem?_set_ne (fun z => absurd (oi _ _ ku (by omega) z) (by omega)), ← List.getD_eq_getElem?_getD]
              exact r0 i hi
            · rw [List.getD_eq_getElem?_getD, List.getElem?_set_self gk]; decide
          · have z : decide (row.getD (o.getD k 0) 0 = 0) = false := z
            exact ⟨row, rwl, rab, r0, of_decide_eq_false z, rfl, rfl⟩
        rintro ρ' M' ⟨row, rwl, rab, r0, rk, rfl, rfl⟩
        refine ⟨⟨_, _, rfl, at_mid⟩, M.length, _, _, rfl, rfl, at_mid, ?_, ?_⟩
        · rw [List.length_map, ri.len]; exact Nat.lt_of_le_of_lt (show R.length ≤ 12 by omega) (by decide)
        rw [set_mid]
        refine nxt _ _ ⟨k + 1, m', E ++ [.lst (row.map Dt.int)], ls ++ [E.length], R ++ [row], _, _, _, by rw [Int.natCast_add]; rfl, by omega, by simp [rl], ri.app, rw'.app rwl rab, fun i hi => ?_, by rw [List.map_append]; rfl, rfl⟩
        rw [List.length_append, List.length_singleton] at hi
        by_cases e : i < R.length
        · rw [List.getD_eq_getElem?_getD (l := R ++ [row]), List.getElem?_append_left (l₁ := R) e, ← List.getD_eq_getElem?_getD]
          exact tri i e
        · have : i = R.length := by omega
          subst this
          rw [List.getD_eq_getElem?_getD (l := R ++ [row]), List.getElem?_append_right (l₁ := R) (Nat.le_refl _), Nat.sub_self]
          subst rl
          exact ⟨fun j hj => r0 j hj, rk⟩
    · obtain ⟨k, m, E, ls, R, o5, o6, o7, ex, km, rl, ri, rw', tri, rfl, rfl⟩ := hj
      have m0 : m = 0 := by
        have := congrArg List.length ex
        rw [rngD_len] at this; exact this.symm
      have rlu : R.length = u := by omega
      have ker := tri.ker rlu ho
      clear tri ex km m0 rl
      dsimp only [sForK, iSeqK, dFz, dSlBL]
      dsimp only [gN, sFor, iRng, dFrz, dFz, sSeq, sNext, sIf, sRet, sSet, sDrop, sRaise, dCall, dFn, dOp, dUn, dVar, dC, aNil, aCons, dTup, dLst, tstD, andT, orT, notT, dAnd, dOr, dNot, dIf, dSM, startD, List.map_cons, List.map_nil, List.length_cons, List.length_nil, List.cons_append, List.nil_append, List.replicate, List.getElem?_cons_zero, List.getElem?_cons_succ, List.set_cons_zero, List.set_cons_succ, Nat.reduceSub, Nat.reduceAdd, Nat.zero_add]
      refine ⟨33, rfl, ns.map .int, 45, rfl, rfl, ?_⟩
      rw [← List.map_drop, ← List.map_take]
      refine fz_loc (ints_un _) ?_
      refine forK_map (fun zs ρ' M' => ∃ (rest : List Int) (t : Nat) (E : Ms) (ls : List Nat) (R : List (List Int)) (o5 o6 o7 o8 o9 : Option Dt), zs = rest.map Dt.int ∧ rest.length + t ≤ 12 ∧ R.length = u ∧ RI E ls R ∧ Rws R u (far * 4 ^ t) ∧ Ker R u ∧ M' = M ++ MO.lst (ls.map (lcD M.length)) :: E ∧ ρ' = [some (.scr ns), some (.int u), some (.lst (o.map ntD)), some (.int far), some (.loc M.length), o5, o6, o7, o8, o9]) (fun zs ρ' M' hj => trivial) (fun x zs ρ' M' hj nxt => ?_) (fun ρ' M' hj => ?_) _ _ _ ⟨_, 0, E, ls, R, _, _, _, _, _, rfl, by rw [List.length_take]; omega, rlu, ri, by rw [Int.pow_zero, Int.mul_one]; exact rw', ker, rfl, rfl⟩
      · obtain ⟨rest, t, E, ls, R, o5, o6, o7, o8, o9, ex, rt, rlu, ri, rw', ker, rfl, rfl⟩ := hj
        cases rest with
        | nil => cases ex
        | cons c rest =>
          cases ex
          have rt : rest.length + 1 + t ≤ 12 := rt
          have c0 := Int.emod_nonneg c (show (10 ^ (12 : Int).toNat : Int) ≠ 0 by decide)
          have c1 := Int.emod_lt_of_pos c (show (0 : Int) < 10 ^ (12 : Int).toNat by decide)
          have c1 : c % 10 ^ (12 : Int).toNat < 1000000000000 := c1
          obtain ⟨nu, hnu⟩ : ∃ nu, nu = c % 10 ^ (12 : Int).toNat := ⟨_, rfl⟩
          rw [← hnu] at c0 c1
          have bn : Big nu := bg (k := 60) (by omega)
          have uz : (u : Int) ≠ 0 := by omega
          have up : (0 : Int) < u := by omega
          have k0 := Int.emod_nonneg nu uz
          have k1 := Int.emod_lt_of_pos nu up
          have j0 := Int.emod_nonneg (nu * 48271 % 65521) uz
          have j1 := Int.emod_lt_of_pos (nu * 48271 % 65521) up
          obtain ⟨k, hk⟩ : ∃ k : Nat, (k : Int) = nu % u := ⟨(nu % u).toNat, by omega⟩
          obtain ⟨j, hj⟩ : ∃ j : Nat, (j : Int) = nu * 48271 % 65521 % u := ⟨(nu * 48271 % 65521 % u).toNat, by omega⟩
          refine ⟨p12, by decide, by omega, ⟨by rw [← hnu]; exact bn, bg (k := 40) (by decide)⟩, by decide, by omega, ?_⟩
          rw [← hnu, ← hk, ← hj]
          refine ⟨fun z => ?_, fun z => ?_⟩
          · have kj : k ≠ j := by
              have z : (!decide ((k : Int) = j)) = true := z
              intro e; subst e; simp at z
            have ku : k < u := by omega
            have ju : j < u := by omega
            obtain ⟨cc, hcc⟩ : ∃ cc, cc = nu * 69621 % 65537 % 7 - 3 := ⟨_, rfl⟩
            have cb : -3 ≤ cc ∧ cc ≤ 3 := by omega
            have kl : (R.getD k []).length = u := len_at rw' (by omega)
            have jl : (R.getD j []).length = u := len_at rw' (by omega)
            have f4 : far * 4 ^ t ≤ 10 ^ 20 * 4 ^ 12 := Int.mul_le_mul f2 (by have := Nat.pow_le_pow_right (show 0 < 4 by decide) (show t ≤ 12 by omega); exact_mod_cast this) (Int.pow_nonneg (by decide)) (by decide)
            dsimp only [sSetIx, dCompM]
            dsimp only [gN, sFor, iRng, dFrz, dFz, sSeq, sNext, sIf, sRet, sSet, sDrop, sRaise, dCall, dFn, dOp, dUn, dVar, dC, aNil, aCons, dTup, dLst, tstD, andT, orT, notT, dAnd, dOr, dNot, dIf, dSM, startD, List.map_cons, List.map_nil, List.length_cons, List.length_nil, List.cons_append, List.nil_append, List.replicate, List.getElem?_cons_zero, List.getElem?_cons_succ, List.set_cons_zero, List.set_cons_succ, Nat.reduceSub, Nat.reduceAdd, Nat.zero_add]
            refine ⟨by omega, ?_, ?_⟩
            · rw [rngD_len]; exact Nat.le_trans (show _ ≤ 12 by omega) (by decide)
            refine compD_map (f := fun d => match d with | .int c => .int ((R.getD k []).getD c.toNat 0 + cc * (R.getD j []).getD c.toNat 0) | d => d) _ _ (fun x hx qq hq => ?_) ?_
            · obtain ⟨c, hc, rfl⟩ := rngD_mem hx
              have hc : c < u := by omega
              rw [Int.zero_add] at hq ⊢
              have hq : qq (.int ((R.getD k []).getD c 0 + cc * (R.getD j []).getD c 0)) _ := hq
              have ab := rw'.at_ (k := j) (x := c) (by omega) hc
              refine (ri.read (k := k) (c := c) (u := u) (by omega) (by omega) ?_ : _)
              refine ⟨⟨bn, bg (k := 40) (by decide)⟩, by decide, by decide, ?_⟩
              dsimp only [gN, sFor, iRng, dFrz, dFz, sSeq, sNext, sIf, sRet, sSet, sDrop, sRaise, dCall, dFn, dOp, dUn, dVar, dC, aNil, aCons, dTup, dLst, tstD, andT, orT, notT, dAnd, dOr, dNot, dIf, dSM, startD, List.map_cons, List.map_nil, List.length_cons, List.length_nil, List.cons_append, List.nil_append, List.replicate, List.getElem?_cons_zero, List.getElem?_cons_succ, List.set_cons_zero, List.set_cons_succ, Nat.reduceSub, Nat.reduceAdd, Nat.zero_add]
              dsimp only [fSub]
              rw [← hcc]
              refine (ri.read (k := j) (c := c) (u := u) (by omega) (by omega) ?_ : _)
              refine ⟨⟨bg (k := 10) (by omega), bg (k := 110) (by obtain ⟨a, b⟩ := ab; omega)⟩, hq⟩
            · obtain ⟨r, hr⟩ : ∃ r : List Int, r = (List.range u).map fun c => (R.getD k []).getD c 0 + cc * (R.getD j []).getD c 0 := ⟨_, rfl⟩
              have er : ∀ f : Dt → Dt, (∀ c : Nat, c < u → f (.int (0 + (c : Int))) = .int ((R.getD k []).getD c 0 + cc * (R.getD j []).getD c 0)) → (rngD 0 ((u : Int)).toNat).map f = r.map Dt.int := fun f hf => by
                rw [show ((u : Int)).toNat = u by omega, hr]
                unfold rngD
                rw [List.map_map, List.map_map]
                exact List.map_congr_left fun c hc => hf c (List.mem_range.mp hc)
              rw [List.nil_append, er _ (fun c hc => by show Dt.int ((R.getD k []).getD (0 + (c : Int)).toNat 0 + cc * (R.getD j []).getD (0 + (c : Int)).toNat 0) = _; rw [show (0 + (c : Int)).toNat = c by omega]), len_mid, app_mid]
              refine ⟨M.length, _, _, k, rfl, rfl, at_mid, by rw [List.length_map, ri.len]; exact ix_nat (by omega), ?_⟩
              rw [set_mid, show (Dt.loc (M.length + 1 + E.length)) = lcD M.length E.length from rfl, ← List.map_set]
              have rr : ∀ x, x < u → r.getD x 0 = (R.getD k []).getD x 0 + cc * (R.getD j []).getD x 0 := fun x hx => by rw [hr, getD_map hx]
              refine nxt _ _ ⟨rest, t + 1, _, _, R.set k r, _, _, _, _, _, rfl, by omega, by rw [List.length_set]; exact rlu, ri.set, ?_, ker.set (by omega) (by omega) kj rr, rfl, rfl⟩
              have f0 : 0 ≤ far * 4 ^ t := Int.mul_nonneg (by omega) (Int.pow_nonneg (by decide))
              have e4 : far * 4 ^ (t + 1) = 4 * (far * 4 ^ t) := by rw [Int.pow_succ]; grind
              rw [e4]
              refine (rw'.le (by omega)).set (by rw [hr]; simp) fun x hx => ?_
              rw [hr] at hx
              obtain ⟨c, hc, rfl⟩ := List.mem_map.mp hx
              have hc := List.mem_range.mp hc
              have a1 := rw'.at_ (k := k) (x := c) (by omega) hc
              have a2 := rw'.at_ (k := j) (x := c) (by omega) hc
              have a3 : Bz.Ab (cc * (R.getD j []).getD c 0) (3 * (far * 4 ^ t)) := Bz.Ab.mul ⟨by omega, by omega⟩ a2
              obtain ⟨x1, x2⟩ := a1
              obtain ⟨x3, x4⟩ := a3
              exact ⟨by omega, by omega⟩
          · exact nxt _ _ ⟨rest, t, E, ls, R, _, _, _, _, _, rfl, by omega, rlu, ri, rw', ker, rfl, rfl⟩
      · obtain ⟨rest, t, E, ls, R, o5, o6, o7, o8, o9, ex, rt, rlu, ri, rw', ker, rfl, rfl⟩ := hj
        refine h E ls R far f1 f2 f9 ri rlu (rw'.le ?_) ker
        exact Int.mul_le_mul_of_nonneg_left (by have := Nat.pow_le_pow_right (show 0 < 4 by decide) (show t ≤ 12 by omega); exact_mod_cast this) (by omega)
end
end Pg


set_option Elab.async false
set_option linter.all false
set_option maxRecDepth 100000
set_option maxHeartbeats 4000000
namespace Pg
open PySem L2 Fr0 Tx
theorem frz_rows {n : Nat} {E X : Ms} {c : MO} {ls : List Nat} {R : List (List Int)} (h : RI E ls R) : ∀ (o : List Nat), (∀ i ∈ o, i < R.length) → FrzL n (c :: (E ++ X)) (o.map fun i => lcD n (ls.getD i 0)) (o.map fun i => ilD (R.getD i []))
  | [], _ => .nil
  | i :: o, ho => .cons (.newL (by omega) (by
      rw [show n + 1 + ls.getD i 0 - n = ls.getD i 0 + 1 by omega, List.getElem?_cons_succ]
      exact (h.more (X := X)).at_ i (ho i List.mem_cons_self)) (FrzL.old (ints_un _))) (frz_rows h o fun j hj => ho j (List.mem_cons_of_mem _ hj))
section
variable {P : Program} {w : World} {K : PySem.W.Frag} {mg : Str → Option Value} {base : Heap} {CN : Addr}
def TRows : DF := fun as M q _ => ∃ (ns : List Int) (u : Nat), as = [.scr ns, .int (u : Int)] ∧ ns.length ≤ 63 ∧ 1 ≤ u ∧ u ≤ 12 ∧ ∀ (E : Ms) (d : Dt) (R : List (List Int)) (F : Int), Frz M.length E d (mlD R) → 1 ≤ F → F ≤ 10 ^ 20 → (5 < u → F ≤ 9) → 1 ≤ R.length → R.length ≤ 12 → Rws R u (F * 4 ^ 15) → Ker R u → q d (M ++ E)
theorem scLawRows : FnScope ["_law_script", "_law_wide_here", "_law_rows_here", "_law_k", "_law_cell_here", "_law_one", "_law_two", "_law_many"] ["_law_script", "_law_wide_here"] (defScope sLawRows) := ⟨rfl, rfl, rfl, by decide +kernel, rfl, by decide +kernel, by decide +kernel⟩
theorem ok_LawRows {f : Addr} {fd : FuncData} (F : Fun K "_law_rows" "_law_rows" sLawRows f fd) (E : Ev K mg CN) {fLawCorner : Addr} {dLawCorner : FuncData} (c_LawCorner : CalD P w K mg base 3 "_law_corner" ["_law_script", "_law_wide_here"] TCorner fLawCorner dLawCorner) {fLawAt : Addr} {dLawAt : FuncData} (c_LawAt : CalD P w K mg base 1 "_law_at" ["_law_script", "_law_k"] TAt fLawAt dLawAt) {fLawOrder : Addr} {dLawOrder : FuncData} (c_LawOrder : CalD P w K mg base 1 "_law_order" ["_law_cell_here", "_law_many"] TOrder fLawOrder dLawOrder) : FnOk P w K mg base (CX1 P w) 4 f fd ["_law_script", "_law_wide_here"] (spD K TRows) := by
  refine F.okD scLawRows (fun ds M q x h => ?_) (fun cdv A outer s H E' hr => ⟨_, (jss_cons (js_set (i := 2) scLawRows.nd rfl (Or.inr rfl) (j_fn c_LawCorner hr passes1 (ja_cons (jv 0) (ja_cons (jv 1) ja_nil (hs := starN)) (hs := starN))))
      (jss_cons (js_for (ji_range E.n_range (ja_cons (j_min E.n_min (ja_cons (j_mod (j_fn c_LawAt hr passes1 (ja_cons (jv 0) (ja_cons jint ja_nil (hs := starC)) (hs := starN))) jint) (ja_cons (j_sub jint (j_len E.n_len (ja_cons (jv 2) ja_nil (hs := starN)))) ja_nil (hs := starB)) (hs := starB))) ja_nil (hs := starF))) (pg_name (i := 3) scLawRows.nd rfl (Or.inl rfl)) gd_name (jss_cons (js_set (i := 4) scLawRows.nd rfl (Or.inl rfl) (j_fn c_LawAt hr passes1 (ja_cons (jv 0) (ja_cons (j_add jint (jv 3)) ja_nil (hs := starB)) (hs := starN))))
      (jss_cons (js_set (i := 5) scLawRows.nd rfl (Or.inr rfl) (j_ix (jv 2) (j_mod (jv 4) (j_len E.n_len (ja_cons (jv 2) ja_nil (hs := starN))))))
      (jss_cons (js_set (i := 6) scLawRows.nd rfl (Or.inr rfl) (j_ix (jv 2) (j_mod (j_mod (j_mul (jv 4) jint) jint) (j_len E.n_len (ja_cons (jv 2) ja_nil (hs := starN))))))
      (jss_cons (js_set (i := 7) scLawRows.nd rfl (Or.inr rfl) (j_mod (j_mul (jv 4) jint) jint))
      (jss_one (js_expr (j_append (jv 2) (ja_cons (j_compM (ys := ["_law_one", "_law_two", "_law_many"]) (caps := [5, 6, 7]) ⟨rfl, by decide +kernel, by decide +kernel, rfl, (by show ∀ p : Str × NameKind, p ∈ _ → p.2 = NameKind.free → List.lookup p.1 (defScope sLawRows).names = some .cell; decide +kernel), by decide +kernel, (by show ∀ q : Str × Nat, q ∈ _ → (["_law_script", "_law_wide_here", "_law_rows_here", "_law_k", "_law_cell_here", "_law_one", "_law_two", "_law_many"] : List Str)[q.2]? = some q.1 ∧ List.lookup q.1 (defScope sLawRows).names = some .cell ∧ _; decide +kernel), rfl⟩ (ji_range E.n_range (ja_cons (jv 1) ja_nil (hs := starN))) (fun C s H fp => (j_add (j_mul (j_sub (j_mod (jv 3) jint) jint) (j_ix (jv 1) (jv 0))) (j_mul (j_sub (j_mod (j_div (jv 3) jint) jint) jint) (j_ix (jv 2) (jv 0)))))) ja_nil)))))))))
      (jss_one (js_ret (j_compKM (ys := ["_law_rows_here"]) (caps := [2]) ⟨rfl, by decide +kernel, by decide +kernel, rfl, (by show ∀ p : Str × NameKind, p ∈ _ → p.2 = NameKind.free → List.lookup p.1 (defScope sLawRows).names = some .cell; decide +kernel), by decide +kernel, (by show ∀ q : Str × Nat, q ∈ _ → (["_law_script", "_law_wide_here", "_law_rows_here", "_law_k", "_law_cell_here", "_law_one", "_law_two", "_law_many"] : List Str)[q.2]? = some q.1 ∧ List.lookup q.1 (defScope sLawRows).names = some .cell ∧ _; decide +kernel), rfl⟩ (jk_seq (je_fz (j_fn c_LawOrder hr passes1 (ja_cons (j_fn c_LawAt hr passes1 (ja_cons (jv 0) (ja_cons jint ja_nil (hs := starC)) (hs := starN))) (ja_cons (j_len E.n_len (ja_cons (jv 2) ja_nil (hs := starN))) ja_nil (hs := starF)) (hs := starF))))) (fun C s H fp => (j_ix (jv 1) (jv 0)))))))), fun ds M q x h => ?_⟩)
  · obtain ⟨ns, u, rfl, _⟩ := h; rfl
  · obtain ⟨ns, u, rfl, nl, u1, u12, h⟩ := h
    refine ⟨ns, u, rfl, nl, u1, u12, fun E ls R F F1 F2 F9 ri rlu rws ker => ?_⟩
    refine ⟨ns, 45, rfl, nl, by decide, by decide, fun n hn => ⟨by decide, ?_⟩⟩
    dsimp only [gN, sFor, iRng, dFrz, dFz, sSeq, sNext, sIf, sRet, sSet, sDrop, sRaise, dCall, dFn, dOp, dUn, dVar, dC, aNil, aCons, dTup, dLst, tstD, andT, orT, notT, dAnd, dOr, dNot, dIf, dSM, startD, List.map_cons, List.map_nil, List.length_cons, List.length_nil, List.cons_append, List.nil_append, List.replicate, List.getElem?_cons_zero, List.getElem?_cons_succ, List.set_cons_zero, List.set_cons_succ, Nat.reduceSub, Nat.reduceAdd, Nat.zero_add]
    refine (fLen_seq (d := .loc M.length) (seq_at at_mid) ?_ : fLen [.loc M.length] _ _)
    rw [List.length_map, ri.len, rlu]
    dsimp only [fSub, fMin]
    have n0 := Int.emod_nonneg n (show (4 : Int) ≠ 0 by decide)
    have n1 := Int.emod_lt_of_pos n (show (0 : Int) < 4 by decide)
    obtain ⟨cnt, hc⟩ : ∃ cnt : Nat, (cnt : Int) = if (12 : Int) - (u : Int) < n % 4 then (12 : Int) - (u : Int) else n % 4 := ⟨(if (12 : Int) - (u : Int) < n % 4 then (12 : Int) - (u : Int) else n % 4).toNat, by split <;> omega⟩
    rw [← hc]
    have hc1 : cnt ≤ 3 ∧ cnt + u ≤ 12 := by split at hc <;> omega
    refine ⟨by omega, ?_⟩
    rw [show ((cnt : Int)).toNat = cnt by omega]
    refine forD_map (fun xs ρ' M' => ∃ (k m : Nat) (E : Ms) (ls : List Nat) (R : List (List Int)) (o3 o4 o5 o6 o7 : Option Dt), xs = rngD (k : Int) m ∧ k + m ≤ 3 ∧ 1 ≤ R.length ∧ R.length + m ≤ 12 ∧ RI E ls R ∧ Rws R u (F * 4 ^ (12 + k)) ∧ Ker R u ∧ M' = M ++ MO.lst (ls.map (lcD M.length)) :: E ∧ ρ' = [some (.scr ns), some (.int u), some (.loc M.length), o3, o4, o5, o6, o7]) (fun x xs ρ' M' hj nxt => ?_) (fun ρ' M' hj => ?_) _ _ _ ⟨0, cnt, E, ls, R, none, none, none, none, none, rfl, by omega, by omega, by omega, ri, rws, ker, rfl, rfl⟩
    · clear hc hc1 n0 n1 hn n ri rlu rws ker ls R E
      obtain ⟨k, m, E, ls, R, o3, o4, o5, o6, o7, ex, km, r1, r12, ri, rws, ker, rfl, rfl⟩ := hj
      obtain ⟨m', rfl, rfl, rfl⟩ := rngD_cons ex
      refine ⟨ns, 46 + (k : Int), rfl, nl, by omega, by omega, fun n hn => ?_⟩
      have lp : (0 : Int) < (R.length : Int) := by omega
      have lz : (R.length : Int) ≠ 0 := by omega
      have a0 := Int.emod_nonneg n lz
      have a1 := Int.emod_lt_of_pos n lp
      have b0 := Int.emod_nonneg (n * 48271 % 65521) lz
      have b1 := Int.emod_lt_of_pos (n * 48271 % 65521) lp
      obtain ⟨a, ha⟩ : ∃ a : Nat, (a : Int) = n % R.length := ⟨(n % R.length).toNat, by omega⟩
      obtain ⟨b, hb⟩ : ∃ b : Nat, (b : Int) = n * 48271 % 65521 % R.length := ⟨(n * 48271 % 65521 % R.length).toNat, by omega⟩
      have al : a < R.length := by omega
      have bl : b < R.length := by omega
      dsimp only [gN, sFor, iRng, dFrz, dFz, sSeq, sNext, sIf, sRet, sSet, sDrop, sRaise, dCall, dFn, dOp, dUn, dVar, dC, aNil, aCons, dTup, dLst, tstD, andT, orT, notT, dAnd, dOr, dNot, dIf, dSM, startD, List.map_cons, List.map_nil, List.length_cons, List.length_nil, List.cons_append, List.nil_append, List.replicate, List.getElem?_cons_zero, List.getElem?_cons_succ, List.set_cons_zero, List.set_cons_succ, Nat.reduceSub, Nat.reduceAdd, Nat.zero_add]
      refine (fLen_seq (d := .loc M.length) (seq_at at_mid) ?_ : fLen [.loc M.length] _ _)
      rw [List.length_map, ri.len]
      refine ⟨lp, ?_⟩
      rw [← ha]
      refine (fIx_seq (d := .loc M.length) (seq_at at_mid) (lc_at (by rw [ri.len]; exact al)) ?_ : fIx (.loc M.length) (.int (a : Int)) _ _)
      refine ⟨⟨nm_big hn, bg (k := 40) (by decide)⟩, by decide, ?_⟩
      dsimp only [gN, sFor, iRng, dFrz, dFz, sSeq, sNext, sIf, sRet, sSet, sDrop, sRaise, dCall, dFn, dOp, dUn, dVar, dC, aNil, aCons, dTup, dLst, tstD, andT, orT, notT, dAnd, dOr, dNot, dIf, dSM, startD, List.map_cons, List.map_nil, List.length_cons, List.length_nil, List.cons_append, List.nil_append, List.replicate, List.getElem?_cons_zero, List.getElem?_cons_succ, List.set_cons_zero, List.set_cons_succ, Nat.reduceSub, Nat.reduceAdd, Nat.zero_add]
      refine (fLen_seq (d := .loc M.length) (seq_at at_mid) ?_ : fLen [.loc M.length] _ _)
      rw [List.length_map, ri.len]
      refine ⟨lp, ?_⟩
      rw [← hb]
      refine (fIx_seq (d := .loc M.length) (seq_at at_mid) (lc_at (by rw [ri.len]; exact bl)) ?_ : fIx (.loc M.length) (.int (b : Int)) _ _)
      refine ⟨⟨nm_big hn, bg (k := 40) (by decide)⟩, by decide, ?_⟩
      have q0 := Int.emod_nonneg (n * 69621) (show (65537 : Int) ≠ 0 by decide)
      have q1 := Int.emod_lt_of_pos (n * 69621) (show (0 : Int) < 65537 by decide)
      generalize n * 69621 % 65537 = mn at *
      obtain ⟨c1, hc1⟩ : ∃ c1, c1 = mn % 5 - 2 := ⟨_, rfl⟩
      obtain ⟨c2, hc2⟩ : ∃ c2, c2 = mn / 5 % 5 - 2 := ⟨_, rfl⟩
      have d1 : -2 ≤ c1 ∧ c1 ≤ 2 := by omega
      have d2 : -2 ≤ c2 ∧ c2 ≤ 2 := by omega
      have la : (R.getD a []).length = u := len_at rws al
      have lb : (R.getD b []).length = u := len_at rws bl
      have f4 : F * 4 ^ (12 + k) ≤ 10 ^ 20 * 4 ^ 15 := Int.mul_le_mul F2 (by have := Nat.pow_le_pow_right (show 0 < 4 by decide) (show 12 + k ≤ 15 by omega); exact_mod_cast this) (Int.pow_nonneg (by decide)) (by decide)
      refine ⟨⟨_, _, rfl, at_mid⟩, ?_⟩
      dsimp only [dCompM]
      dsimp only [gN, sFor, iRng, dFrz, dFz, sSeq, sNext, sIf, sRet, sSet, sDrop, sRaise, dCall, dFn, dOp, dUn, dVar, dC, aNil, aCons, dTup, dLst, tstD, andT, orT, notT, dAnd, dOr, dNot, dIf, dSM, startD, List.map_cons, List.map_nil, List.length_cons, List.length_nil, List.cons_append, List.nil_append, List.replicate, List.getElem?_cons_zero, List.getElem?_cons_succ, List.set_cons_zero, List.set_cons_succ, Nat.reduceSub, Nat.reduceAdd, Nat.zero_add]
      refine ⟨by omega, ?_, ?_⟩
      · rw [rngD_len]; exact Nat.le_trans (show _ ≤ 12 by omega) (by decide)
      refine compD_map (f := fun d => match d with | .int c => .int (c1 * (R.getD a []).getD c.toNat 0 + c2 * (R.getD b []).getD c.toNat 0) | d => d) _ _ (fun x hx qq hq => ?_) ?_
      · obtain ⟨c, hc, rfl⟩ := rngD_mem hx
        have hc : c < u := by omega
        rw [Int.zero_add] at hq ⊢
        have hq : qq (.int (c1 * (R.getD a []).getD c 0 + c2 * (R.getD b []).getD c 0)) _ := hq
        have ab1 := rws.at_ (k := a) (x := c) al hc
        have ab2 := rws.at_ (k := b) (x := c) bl hc
        refine ⟨by decide, ?_⟩
        dsimp only [gN, sFor, iRng, dFrz, dFz, sSeq, sNext, sIf, sRet, sSet, sDrop, sRaise, dCall, dFn, dOp, dUn, dVar, dC, aNil, aCons, dTup, dLst, tstD, andT, orT, notT, dAnd, dOr, dNot, dIf, dSM, startD, List.map_cons, List.map_nil, List.length_cons, List.length_nil, List.cons_append, List.nil_append, List.replicate, List.getElem?_cons_zero, List.getElem?_cons_succ, List.set_cons_zero, List.set_cons_succ, Nat.reduceSub, Nat.reduceAdd, Nat.zero_add]
        dsimp only [fSub]
        rw [← hc1]
        refine (fIx_seq (d := lcD M.length (ls.getD a 0)) (seq_at (at_cons (ri.at_ a al))) (in_at (by omega)) ?_ : fIx (lcD M.length (ls.getD a 0)) (.int (c : Int)) _ _)
        refine ⟨⟨bg (k := 10) (by omega), bg (k := 110) (by obtain ⟨x1, x2⟩ := ab1; omega)⟩, ⟨by decide, bg (k := 10) (by decide)⟩, by decide, ?_⟩
        dsimp only [gN, sFor, iRng, dFrz, dFz, sSeq, sNext, sIf, sRet, sSet, sDrop, sRaise, dCall, dFn, dOp, dUn, dVar, dC, aNil, aCons, dTup, dLst, tstD, andT, orT, notT, dAnd, dOr, dNot, dIf, dSM, startD, List.map_cons, List.map_nil, List.length_cons, List.length_nil, List.cons_append, List.nil_append, List.replicate, List.getElem?_cons_zero, List.getElem?_cons_succ, List.set_cons_zero, List.set_cons_succ, Nat.reduceSub, Nat.reduceAdd, Nat.zero_add]
        rw [← hc2]
        refine (fIx_seq (d := lcD M.length (ls.getD b 0)) (seq_at (at_cons (ri.at_ b bl))) (in_at (by omega)) ?_ : fIx (lcD M.length (ls.getD b 0)) (.int (c : Int)) _ _)
        refine ⟨⟨bg (k := 10) (by omega), bg (k := 110) (by obtain ⟨x1, x2⟩ := ab2; omega)⟩, hq⟩
      · obtain ⟨r, hr⟩ : ∃ r : List Int, r = (List.range u).map fun c => c1 * (R.getD a []).getD c 0 + c2 * (R.getD b []).getD c 0 := ⟨_, rfl⟩
        have er : ∀ f : Dt → Dt, (∀ c : Nat, c < u → f (.int (0 + (c : Int))) = .int (c1 * (R.getD a []).getD c 0 + c2 * (R.getD b []).getD c 0)) → (rngD 0 ((u : Int)).toNat).map f = r.map Dt.int := fun f hf => by
          rw [show ((u : Int)).toNat = u by omega, hr]
          unfold rngD
          rw [List.map_map, List.map_map]
          exact List.map_congr_left fun c hc => hf c (List.mem_range.mp hc)
        rw [List.nil_append, er _ (fun c hc => by show Dt.int (c1 * (R.getD a []).getD (0 + (c : Int)).toNat 0 + c2 * (R.getD b []).getD (0 + (c : Int)).toNat 0) = _; rw [show (0 + (c : Int)).toNat = c by omega]), len_mid, app_mid]
        refine ⟨M.length, _, _, rfl, rfl, at_mid, ?_, ?_⟩
        · rw [List.length_map, ri.len]; exact Nat.lt_of_le_of_lt (show R.length ≤ 12 by omega) (by decide)
        rw [set_mid]
        have f0 : 0 ≤ F * 4 ^ (12 + k) := Int.mul_nonneg (by omega) (Int.pow_nonneg (by decide))
        have e4 : F * 4 ^ (12 + (k + 1)) = 4 * (F * 4 ^ (12 + k)) := by rw [← Nat.add_assoc, Int.pow_succ]; grind
        refine nxt _ _ ⟨k + 1, m', E ++ [.lst (r.map Dt.int)], ls ++ [E.length], R ++ [r], _, _, _, _, _, by rw [Int.natCast_add]; rfl, by omega, by simp, by simp; omega, ri.app, ?_, ker.sub fun x hx => List.mem_append_left _ hx, by rw [List.map_append]; rfl, rfl⟩
        rw [e4]
        refine (rws.le (by omega)).app (by rw [hr]; simp) fun x hx => ?_
        rw [hr] at hx
        obtain ⟨c, hc, rfl⟩ := List.mem_map.mp hx
        have hc := List.mem_range.mp hc
        have a1 : Bz.Ab (c1 * (R.getD a []).getD c 0) (2 * (F * 4 ^ (12 + k))) := Bz.Ab.mul ⟨by omega, by omega⟩ (rws.at_ al hc)
        have a2 : Bz.Ab (c2 * (R.getD b []).getD c 0) (2 * (F * 4 ^ (12 + k))) := Bz.Ab.mul ⟨by omega, by omega⟩ (rws.at_ bl hc)
        obtain ⟨x1, x2⟩ := a1
        obtain ⟨x3, x4⟩ := a2
        exact ⟨by omega, by omega⟩
    · clear hc hc1 n0 n1 hn n ri rlu rws ker ls R E
      obtain ⟨k, m, E, ls, R, o3, o4, o5, o6, o7, ex, km, r1, r12, ri, rws, ker, rfl, rfl⟩ := hj
      dsimp only [sRet, dCompKM, iSeqK, dFz]
      dsimp only [gN, sFor, iRng, dFrz, dFz, sSeq, sNext, sIf, sRet, sSet, sDrop, sRaise, dCall, dFn, dOp, dUn, dVar, dC, aNil, aCons, dTup, dLst, tstD, andT, orT, notT, dAnd, dOr, dNot, dIf, dSM, startD, List.map_cons, List.map_nil, List.length_cons, List.length_nil, List.cons_append, List.nil_append, List.replicate, List.getElem?_cons_zero, List.getElem?_cons_succ, List.set_cons_zero, List.set_cons_succ, Nat.reduceSub, Nat.reduceAdd, Nat.zero_add]
      refine ⟨ns, 49, rfl, nl, by decide, by decide, fun n hn => ?_⟩
      refine (fLen_seq (d := .loc M.length) (seq_at at_mid) ?_ : fLen [.loc M.length] _ _)
      rw [List.length_map, ri.len]
      refine ⟨n, R.length, rfl, hn, by omega, fun o ho => ?_⟩
      refine fz_loc (nats_un _) ?_
      have ol : o.length = R.length := by rw [ho.length_eq, List.length_range]
      have om : ∀ i ∈ o, i < R.length := fun i hi => List.mem_range.mp (ho.mem_iff.mp hi)
      refine ⟨?_, ?_⟩
      · rw [List.length_map]; exact Nat.le_trans (show _ ≤ 12 by omega) (by decide)
      refine compK_map (f := fun d => match d with | .int c => lcD M.length (ls.getD c.toNat 0) | d => d) trivial (fun x hx qq hq => ?_) ?_
      · obtain ⟨i, hi, rfl⟩ := List.mem_map.mp hx
        have hq : qq (lcD M.length (ls.getD i 0)) _ := hq
        exact fIx_seq (d := .loc M.length) (seq_at at_mid) (lc_at (by rw [ri.len]; exact om i hi)) hq
      · rw [List.nil_append, List.map_map, len_mid, app_mid]
        have ho' : ∀ i, i < R.length → i ∈ o := fun i hi => ho.mem_iff.mpr (List.mem_range.mpr hi)
        have mem : ∀ i ∈ o, R.getD i [] ∈ R := fun i hi => by
          rw [List.getD_eq_getElem?_getD, List.getElem?_eq_getElem (om i hi)]; exact List.getElem_mem _
        refine h _ _ (o.map fun i => R.getD i []) F (.newL (by omega) (ds := o.map fun i => lcD M.length (ls.getD i 0)) ?_ ?_) F1 F2 F9 (by simp [ol]; omega) (by simp [ol]; omega) ⟨fun r hr => ?_, fun r hr => ?_⟩ (ker.sub fun r hr => ?_)
        · rw [show M.length + 1 + E.length - M.length = E.length + 1 by omega, List.getElem?_cons_succ, List.getElem?_append_right (Nat.le_refl _), Nat.sub_self]
          rfl
        · rw [List.map_map]
          exact frz_rows ri o om
        · obtain ⟨i, hi, rfl⟩ := List.mem_map.mp hr
          exact rws.wid _ (mem i hi)
        · obtain ⟨i, hi, rfl⟩ := List.mem_map.mp hr
          refine (rws.le ?_).ab _ (mem i hi)
          exact Int.mul_le_mul_of_nonneg_left (by have := Nat.pow_le_pow_right (show 0 < 4 by decide) (show 12 + k ≤ 15 by omega); exact_mod_cast this) (by omega)
        · obtain ⟨i, hi, e⟩ := List.getElem_of_mem hr
          refine List.mem_map.mpr ⟨i, ho' i hi, ?_⟩
          rw [List.getD_eq_getElem?_getD, List.getElem?_eq_getElem hi]; exact e
end
end Pg


set_option Elab.async false
set_option linter.all false
set_option maxRecDepth 100000
set_option maxHeartbeats 4000000
namespace Pg
open PySem L2 Fr0 Tx
def pr : List Fr → Int
  | [] => 1
  | p :: l => p.2 * pr l
theorem pr_pos : ∀ {l : List Fr}, (∀ p ∈ l, 0 < p.2) → 0 < pr l
  | [], _ => by decide
  | p :: l, h => Int.mul_pos (h p List.mem_cons_self) (pr_pos fun q hq => h q (List.mem_cons_of_mem _ hq))
theorem pr_one : ∀ {l : List Fr}, (∀ p ∈ l, p.2 = 1) → pr l = 1
  | [], _ => rfl
  | p :: l, h => by
    show p.2 * pr l = 1
    rw [h p List.mem_cons_self, pr_one fun q hq => h q (List.mem_cons_of_mem _ hq)]; rfl
theorem pr_le : ∀ {l : List Fr}, (∀ p ∈ l, 0 < p.2 ∧ p.2 ≤ 1000000) → pr l ≤ 1000000 ^ l.length
  | [], _ => by decide
  | p :: l, h => by
    have i := pr_le (l := l) fun q hq => h q (List.mem_cons_of_mem _ hq)
    have p0 := pr_pos (l := l) fun q hq => (h q (List.mem_cons_of_mem _ hq)).1
    obtain ⟨a, b⟩ := h p List.mem_cons_self
    show p.2 * pr l ≤ _
    rw [List.length_cons, Int.pow_succ, Int.mul_comm]
    exact Int.mul_le_mul i b (Int.le_of_lt a) (Int.pow_nonneg (by decide))
theorem pr_dvd : ∀ {l : List Fr} {p : Fr}, p ∈ l → p.2 ∣ pr l
  | _ :: l, _, h => by
    rcases List.mem_cons.mp h with rfl | h
    · exact Int.dvd_mul_right _ _
    · exact Int.dvd_trans (pr_dvd h) (Int.dvd_mul_left _ _)
theorem pr_ok {u : Nat} {l : List Fr} (hl : l.length = u) (h : ∀ p ∈ l, FrOk u p) : 0 < pr l ∧ pr l ≤ 10 ^ 30 := by
  refine ⟨pr_pos fun p hp => (h p hp).pos, ?_⟩
  rcases Nat.lt_or_ge 5 u with z | z
  · rw [pr_one fun p hp => ((h p hp).one z).1]; decide
  · have := pr_le (l := l) fun p hp => ⟨(h p hp).pos, (h p hp).le⟩
    refine Int.le_trans this ?_
    have e : (1000000 : Int) ^ l.length ≤ 1000000 ^ 5 := by
      have : ∀ n : Nat, n ≤ 5 → (1000000 : Int) ^ n ≤ 1000000 ^ 5 := by decide
      exact this _ (by omega)
    exact Int.le_trans e (by decide)
/-- what is asked, as numbers over pr due -/
def zOf (due : List Fr) (x : Nat) : Int := (due.getD x (0, 1)).1 * (pr due / (due.getD x (0, 1)).2)
def totOf (r : List Int) (due : List Fr) : Int := Bz.ssum (fun x => r.getD x 0 * zOf due x) due.length
def sumOf (r : List Int) (due : List Fr) : List Int := r.map (· * pr due) ++ [totOf r due]
theorem fr_at {l : List Fr} {j : Nat} (h : j < l.length) : atI (l.map frD) (j : Int) = some (frD (l.getD j (0, 1))) := atI_nat (by rw [List.getElem?_map, List.getElem?_eq_getElem h, List.getD_eq_getElem?_getD, List.getElem?_eq_getElem h]; rfl)
theorem fr_1 {p : Fr} {M : Ms} {q : DQ} (h : q (.int p.2) M) : fIx (frD p) (.int 1) M q := fIx_seq (d := frD p) rfl (atI_nat (j := 1) rfl) h
theorem fr_0 {p : Fr} {M : Ms} {q : DQ} (h : q (.int p.1) M) : fIx (frD p) (.int 0) M q := fIx_seq (d := frD p) rfl atI_zero h
theorem mem_at {l : List Fr} {j : Nat} (h : j < l.length) : l.getD j (0, 1) ∈ l := by
  rw [List.getD_eq_getElem?_getD, List.getElem?_eq_getElem h]; exact List.getElem_mem _
theorem eqFr (p q : Fr) : eqVs [.int p.1, .int p.2] [.int q.1, .int q.2] = decide (p = q) := by
  obtain ⟨a, b⟩ := p
  obtain ⟨c, d⟩ := q
  show ((a == c) && ((b == d) && true)) = _
  rw [Bool.and_true]
  by_cases h1 : a = c
  · by_cases h2 : b = d
    · subst h1 h2; simp
    · simp [h1, h2]
  · simp [h1]
theorem ne_self {p : Fr} {M : Ms} {k : Bool → Ms → Prop} (h : k false M) : fNeF (frD p) (frD p) M (fun d M1 => match d with | .bl b => k b M1 | _ => False) := by
  show k (!eqVs [.int p.1, .int p.2] [.int p.1, .int p.2]) M
  rw [eqFr, decide_eq_true rfl]; exact h
section
variable {P : Program} {w : World} {K : PySem.W.Frag} {mg : Str → Option Value} {base : Heap} {CN : Addr}
def TSum : DF := fun as M q _ => ∃ (r : List Int) (due : List Fr) (u : Nat), as = [ilD r, .lst (due.map frD)] ∧ r.length = u ∧ due.length = u ∧ u ≤ 12 ∧ (∀ p ∈ due, FrOk u p) ∧ (∀ x ∈ r, Bz.Ab x (10 ^ 20 * 4 ^ 15)) ∧ q (ilD (sumOf r due)) M
theorem scLawWithSum : FnScope ["_law_row", "_law_some", "_law_many", "_law_number", "_law_total", "_law_k"] ["_law_row", "_law_some"] (defScope sLawWithSum) := ⟨rfl, rfl, rfl, by decide +kernel, rfl, by decide +kernel, by decide +kernel⟩
theorem ok_LawWithSum {f : Addr} {fd : FuncData} (F : Fun K "_law_with_sum" "_law_with_sum" sLawWithSum f fd) (E : Ev K mg CN)  : FnOk P w K mg base (CX1 P w) 1 f fd ["_law_row", "_law_some"] (spD K TSum) := by
  refine F.okD scLawWithSum (fun ds M q x h => ?_) (fun cdv A outer s H E' hr => ⟨_, (jss_cons (js_set (i := 2) scLawWithSum.nd rfl (Or.inr rfl) jint)
      (jss_cons (js_forK (jk_seq (jv 1)) (pg_name (i := 3) scLawWithSum.nd rfl (Or.inl rfl)) gd_name (jss_one (js_set (i := 2) scLawWithSum.nd rfl (Or.inr rfl) (j_mul (jv 2) (j_ix (jv 3) jint)))))
      (jss_cons (js_set (i := 4) scLawWithSum.nd rfl (Or.inl rfl) jint)
      (jss_cons (js_for (ji_range E.n_range (ja_cons (j_len E.n_len (ja_cons (jv 1) ja_nil (hs := starN))) ja_nil (hs := starF))) (pg_name (i := 5) scLawWithSum.nd rfl (Or.inl rfl)) gd_name (jss_one (js_set (i := 4) scLawWithSum.nd rfl (Or.inl rfl) (j_add (jv 4) (j_mul (j_mul (j_ix (jv 0) (jv 5)) (j_ix (j_ix (jv 1) (jv 5)) jint)) (j_div (jv 2) (j_ix (j_ix (jv 1) (jv 5)) jint)))))))
      (jss_one (js_ret (j_catL (j_compK (ys := ["_law_many"]) (caps := [2]) ⟨rfl, by decide +kernel, by decide +kernel, rfl, (by show ∀ p : Str × NameKind, p ∈ _ → p.2 = NameKind.free → List.lookup p.1 (defScope sLawWithSum).names = some .cell; decide +kernel), by decide +kernel, (by show ∀ q : Str × Nat, q ∈ _ → (["_law_row", "_law_some", "_law_many", "_law_number", "_law_total", "_law_k"] : List Str)[q.2]? = some q.1 ∧ List.lookup q.1 (defScope sLawWithSum).names = some .cell ∧ _; decide +kernel), rfl⟩ (jk_seq (jv 0)) (fun C s H fp => (j_mul (jv 0) (jv 1)))) (j_lst (ja_cons (jv 4) ja_nil (hs := starN)))))))))), fun ds M q x h => ?_⟩)
  · obtain ⟨r, due, u, rfl, _⟩ := h; rfl
  · obtain ⟨r, due, u, rfl, rl, dl, u12, hok, hab, h⟩ := h
    obtain ⟨P0, P1⟩ := pr_ok dl hok
    have bP : Big (pr due) := bg (k := 110) (by omega)
    dsimp only [sSeq, sSet, dC, sForK, iSeqK]
    dsimp only [gN, sFor, iRng, dFrz, dFz, sSeq, sNext, sIf, sRet, sSet, sDrop, sRaise, dCall, dFn, dOp, dUn, dVar, dC, aNil, aCons, dTup, dLst, tstD, andT, orT, notT, dAnd, dOr, dNot, dIf, dSM, startD, List.map_cons, List.map_nil, List.length_cons, List.length_nil, List.cons_append, List.nil_append, List.replicate, List.getElem?_cons_zero, List.getElem?_cons_succ, List.set_cons_zero, List.set_cons_succ, Nat.reduceSub, Nat.reduceAdd, Nat.zero_add]
    refine forK_map (fun zs ρ' M' => M = M' ∧ ∃ (rest : List Fr) (m : Int) (o3 : Option Dt), zs = rest.map frD ∧ (∀ p ∈ rest, 0 < p.2) ∧ (∀ p ∈ rest, p.2 ≤ 1000000) ∧ 0 < m ∧ m * pr rest = pr due ∧ ρ' = [some (ilD r), some (.lst (due.map frD)), some (.int m), o3, none, none]) (fun zs ρ' M' hj => trivial) (fun x zs ρ' M' hj nxt => ?_) (fun ρ' M' hj => ?_) _ _ _ ⟨rfl, due, 1, none, rfl, fun p hp => (hok p hp).pos, fun p hp => (hok p hp).le, by decide, Int.one_mul _, rfl⟩
    · obtain ⟨rfl, rest, m, o3, ex, hp, hp2, m0, hm, rfl⟩ := hj
      cases rest with
      | nil => cases ex
      | cons p rest =>
        cases ex
        have pp := hp p List.mem_cons_self
        have pl := hp2 p List.mem_cons_self
        have rp : 0 < pr rest := pr_pos fun q hq => hp q (List.mem_cons_of_mem _ hq)
        have hm : m * (p.2 * pr rest) = pr due := hm
        have ml : m ≤ pr due := by
          have : m * 1 ≤ m * (p.2 * pr rest) := Int.mul_le_mul_of_nonneg_left (by have := Int.mul_pos pp rp; omega) (by omega)
          omega
        dsimp only [gN, sFor, iRng, dFrz, dFz, sSeq, sNext, sIf, sRet, sSet, sDrop, sRaise, dCall, dFn, dOp, dUn, dVar, dC, aNil, aCons, dTup, dLst, tstD, andT, orT, notT, dAnd, dOr, dNot, dIf, dSM, startD, List.map_cons, List.map_nil, List.length_cons, List.length_nil, List.cons_append, List.nil_append, List.replicate, List.getElem?_cons_zero, List.getElem?_cons_succ, List.set_cons_zero, List.set_cons_succ, Nat.reduceSub, Nat.reduceAdd, Nat.zero_add]
        refine (fr_1 ?_ : fIx (frD p) (.int 1) _ _)
        refine ⟨⟨bg (k := 110) (by omega), bg (k := 30) (by omega)⟩, nxt _ _ ⟨rfl, rest, _, _, rfl, fun q hq => hp q (List.mem_cons_of_mem _ hq), fun q hq => hp2 q (List.mem_cons_of_mem _ hq), Int.mul_pos m0 pp, by rw [Int.mul_assoc]; exact hm, rfl⟩⟩
    · obtain ⟨rfl, rest, m, o3, ex, hp, hp2, m0, hm, rfl⟩ := hj
      cases rest with
      | cons p rest => cases ex
      | nil =>
        have hm : m = pr due := by rw [← hm]; show m = m * 1; omega
        subst hm
        dsimp only [gN, sFor, iRng, dFrz, dFz, sSeq, sNext, sIf, sRet, sSet, sDrop, sRaise, dCall, dFn, dOp, dUn, dVar, dC, aNil, aCons, dTup, dLst, tstD, andT, orT, notT, dAnd, dOr, dNot, dIf, dSM, startD, List.map_cons, List.map_nil, List.length_cons, List.length_nil, List.cons_append, List.nil_append, List.replicate, List.getElem?_cons_zero, List.getElem?_cons_succ, List.set_cons_zero, List.set_cons_succ, Nat.reduceSub, Nat.reduceAdd, Nat.zero_add]
        refine (fLen_seq (d := .lst (due.map frD)) (xs := due.map frD) rfl ?_ : fLen [.lst (due.map frD)] _ _)
        rw [List.length_map, dl]
        refine ⟨by omega, ?_⟩
        rw [show ((u : Int)).toNat = u by omega]
        refine forD_map (fun xs ρ' M' => M = M' ∧ ∃ (k m : Nat) (o5 : Option Dt), xs = rngD (k : Int) m ∧ k + m = u ∧ ρ' = [some (ilD r), some (.lst (due.map frD)), some (.int (pr due)), o3, some (.int (Bz.ssum (fun x => r.getD x 0 * zOf due x) k)), o5]) (fun x xs ρ' M' hj nxt => ?_) (fun ρ' M' hj => ?_) _ _ _ ⟨rfl, 0, u, none, rfl, by omega, rfl⟩
        · obtain ⟨rfl, k, m, o5, ex, km, rfl⟩ := hj
          obtain ⟨m', rfl, rfl, rfl⟩ := rngD_cons ex
          have kd : k < due.length := by omega
          have ok := hok _ (mem_at kd)
          have ar : Bz.Ab (r.getD k 0) (10 ^ 20 * 4 ^ 15) := hab _ (by rw [List.getD_eq_getElem?_getD, List.getElem?_eq_getElem (show k < r.length by omega)]; exact List.getElem_mem _)
          have at1 : Bz.Ab (due.getD k (0, 1)).1 (10 ^ 30) := by have := ok.top; exact ⟨by omega, by omega⟩
          have am := ar.mul at1
          have q0 : 0 ≤ pr due / (due.getD k (0, 1)).2 := Int.ediv_nonneg (by omega) (Int.le_of_lt ok.pos)
          have q1 : pr due / (due.getD k (0, 1)).2 ≤ pr due := Int.ediv_le_self _ (by omega)
          have ok1 := ok.pos
          have ok2 := ok.le
          dsimp only [gN, sFor, iRng, dFrz, dFz, sSeq, sNext, sIf, sRet, sSet, sDrop, sRaise, dCall, dFn, dOp, dUn, dVar, dC, aNil, aCons, dTup, dLst, tstD, andT, orT, notT, dAnd, dOr, dNot, dIf, dSM, startD, List.map_cons, List.map_nil, List.length_cons, List.length_nil, List.cons_append, List.nil_append, List.replicate, List.getElem?_cons_zero, List.getElem?_cons_succ, List.set_cons_zero, List.set_cons_succ, Nat.reduceSub, Nat.reduceAdd, Nat.zero_add]
          refine (fIx_seq (d := ilD r) rfl (in_at (by omega)) ?_ : fIx (ilD r) (.int (k : Int)) _ _)
          refine (fIx_seq (d := .lst (due.map frD)) rfl (fr_at kd) ?_ : fIx (.lst (due.map frD)) (.int (k : Int)) _ _)
          refine (fr_0 ?_ : fIx (frD (due.getD k (0, 1))) (.int 0) _ _)
          refine ⟨⟨bg (k := 110) (by obtain ⟨x1, x2⟩ := ar; omega), bg (k := 110) (by obtain ⟨x1, x2⟩ := at1; omega)⟩, ?_⟩
          dsimp only [gN, sFor, iRng, dFrz, dFz, sSeq, sNext, sIf, sRet, sSet, sDrop, sRaise, dCall, dFn, dOp, dUn, dVar, dC, aNil, aCons, dTup, dLst, tstD, andT, orT, notT, dAnd, dOr, dNot, dIf, dSM, startD, List.map_cons, List.map_nil, List.length_cons, List.length_nil, List.cons_append, List.nil_append, List.replicate, List.getElem?_cons_zero, List.getElem?_cons_succ, List.set_cons_zero, List.set_cons_succ, Nat.reduceSub, Nat.reduceAdd, Nat.zero_add]
          refine (fIx_seq (d := .lst (due.map frD)) rfl (fr_at kd) ?_ : fIx (.lst (due.map frD)) (.int (k : Int)) _ _)
          refine (fr_1 ?_ : fIx (frD (due.getD k (0, 1))) (.int 1) _ _)
          refine ⟨⟨ok1, bg (k := 30) (by omega)⟩, ⟨bg (k := 220) (by obtain ⟨x1, x2⟩ := am; omega), bg (k := 110) (by omega)⟩, ?_⟩
          refine nxt _ _ ⟨rfl, k + 1, m', some (.int k), by rw [Int.natCast_add]; rfl, by omega, ?_⟩
          rw [show Bz.ssum (fun x => r.getD x 0 * zOf due x) (k + 1) = Bz.ssum (fun x => r.getD x 0 * zOf due x) k + r.getD k 0 * (due.getD k (0, 1)).1 * (pr due / (due.getD k (0, 1)).2) by
            show _ + r.getD k 0 * zOf due k = _
            unfold zOf
            rw [Int.mul_assoc]]
        · obtain ⟨rfl, k, m, o5, ex, km, rfl⟩ := hj
          have m0 : m = 0 := by
            have := congrArg List.length ex
            rw [rngD_len] at this; exact this.symm
          have ku : k = due.length := by omega
          subst ku
          dsimp only [sRet, dOp, dCompK, iSeqK]
          dsimp only [gN, sFor, iRng, dFrz, dFz, sSeq, sNext, sIf, sRet, sSet, sDrop, sRaise, dCall, dFn, dOp, dUn, dVar, dC, aNil, aCons, dTup, dLst, tstD, andT, orT, notT, dAnd, dOr, dNot, dIf, dSM, startD, List.map_cons, List.map_nil, List.length_cons, List.length_nil, List.cons_append, List.nil_append, List.replicate, List.getElem?_cons_zero, List.getElem?_cons_succ, List.set_cons_zero, List.set_cons_succ, Nat.reduceSub, Nat.reduceAdd, Nat.zero_add]
          refine ⟨?_, ?_⟩
          · rw [List.length_map]; exact Nat.le_trans (show _ ≤ 12 by omega) (by decide)
          refine compK_map (f := fun d => match d with | .int c => .int (c * pr due) | d => d) trivial (fun x hx qq hq => ?_) ?_
          · obtain ⟨c, hc, rfl⟩ := List.mem_map.mp hx
            exact ⟨⟨bg (k := 110) (by obtain ⟨x1, x2⟩ := hab c hc; omega), bP⟩, hq⟩
          · refine ⟨by decide, _, _, rfl, rfl, ?_, ?_⟩
            · rw [List.nil_append, List.length_map, List.length_map]; exact Nat.le_trans (show r.length + 1 ≤ 13 by omega) (by decide)
            have e : ([] ++ ((r.map Dt.int).map fun d => match d with | .int c => .int (c * pr due) | d => d)) ++ [.int (Bz.ssum (fun x => r.getD x 0 * zOf due x) due.length)] = (sumOf r due).map Dt.int := by
              unfold sumOf totOf
              rw [List.nil_append, List.map_map, List.map_append, List.map_map]; rfl
            rw [e]; exact h
def TTold : DF := fun as M q _ => ∃ (k : Nat) (due : List Fr), as = [.loc k, .lst (due.map frD)] ∧ M[k]? = some (.lst (due.map frD)) ∧ due.length ≤ 12 ∧ q (.bl true) M
theorem scLawTold : FnScope ["_law_found", "_law_due", "_law_k", "_law_number"] ["_law_found", "_law_due"] (defScope sLawTold) := ⟨rfl, rfl, rfl, by decide +kernel, rfl, by decide +kernel, by decide +kernel⟩
theorem ok_LawTold {f : Addr} {fd : FuncData} (F : Fun K "_law_told" "_law_told" sLawTold f fd) (E : Ev K mg CN)  : FnOk P w K mg base (CX1 P w) 1 f fd ["_law_found", "_law_due"] (spD K TTold) := by
  refine F.okD scLawTold (fun ds M q x h => ?_) (fun cdv A outer s H E' hr => ⟨_, (jss_cons (js_if (JW.jt (jw_or (jt_not (jt_val (j_isiM K E.n_isinstance (ja_cons (jv 0) (ja_cons (j_ty E.n_list boot_list') ja_nil (hs := starN)) (hs := starN))))) (jw_or1 (jt_ne hr (j_len E.n_len (ja_cons (jv 0) ja_nil (hs := starN))) (j_len E.n_len (ja_cons (jv 1) ja_nil (hs := starN))))))) (jss_one (js_ret jbl)) jss_nil)
      (jss_cons (js_for (ji_range E.n_range (ja_cons (j_len E.n_len (ja_cons (jv 1) ja_nil (hs := starN))) ja_nil (hs := starF))) (pg_name (i := 2) scLawTold.nd rfl (Or.inl rfl)) gd_name (jss_cons (js_if (JW.jt (jw_or (jt_not (jt_val (j_isiM K E.n_isinstance (ja_cons (j_ix (jv 0) (jv 2)) (ja_cons (j_ty E.n_tuple boot_tuple') ja_nil (hs := starN)) (hs := starX))))) (jw_or (jt_ne hr (j_len E.n_len (ja_cons (j_ix (jv 0) (jv 2)) ja_nil (hs := starX))) jint) (jw_or1 (jt_ne hr (j_ix (jv 0) (jv 2)) (j_ix (jv 1) (jv 2))))))) (jss_one (js_ret jbl)) jss_nil)
      (jss_one (js_forK (jk_seq (j_ix (jv 0) (jv 2))) (pg_name (i := 3) scLawTold.nd rfl (Or.inl rfl)) gd_name (jss_one (js_if (JW.jt (jw_or (jt_not (jt_val (j_isiM K E.n_isinstance (ja_cons (jv 3) (ja_cons (j_ty E.n_int boot_int') ja_nil (hs := starN)) (hs := starN))))) (jw_or1 (jt_val (j_isiM K E.n_isinstance (ja_cons (jv 3) (ja_cons (j_ty E.n_bool boot_bool') ja_nil (hs := starN)) (hs := starN))))))) (jss_one (js_ret jbl)) jss_nil))))))
      (jss_one (js_ret jbl)))), fun ds M q x h => ?_⟩)
  · obtain ⟨k, due, rfl, _⟩ := h; rfl
  · obtain ⟨k, due, rfl, hk, d12, h⟩ := h
    have hkind : kindM M (.loc k) = some (.type "list") := lstR_kind (lstR_at hk)
    dsimp only [gN, sFor, iRng, dFrz, dFz, sSeq, sNext, sIf, sRet, sSet, sDrop, sRaise, dCall, dFn, dOp, dUn, dVar, dC, aNil, aCons, dTup, dLst, tstD, andT, orT, notT, dAnd, dOr, dNot, dIf, dSM, startD, List.map_cons, List.map_nil, List.length_cons, List.length_nil, List.cons_append, List.nil_append, List.replicate, List.getElem?_cons_zero, List.getElem?_cons_succ, List.set_cons_zero, List.set_cons_succ, Nat.reduceSub, Nat.reduceAdd, Nat.zero_add]
    refine ⟨_, _, _, _, true, rfl, hkind, rfl, k_self, fun z => (nomatch z), fun _ => ?_⟩
    refine (fLen_seq (d := .loc k) (seq_at hk) ?_ : fLen [.loc k] _ _)
    refine (fLen_seq (d := .lst (due.map frD)) (xs := due.map frD) rfl ?_ : fLen [.lst (due.map frD)] _ _)
    refine ⟨fun z => ?_, fun _ => ?_⟩
    · have z : (!decide (((due.map frD).length : Int) = ((due.map frD).length : Int))) = true := z
      rw [decide_eq_true rfl] at z; exact nomatch z
    refine (fLen_seq (d := .lst (due.map frD)) (xs := due.map frD) rfl ?_ : fLen [.lst (due.map frD)] _ _)
    rw [List.length_map]
    refine ⟨by omega, ?_⟩
    rw [show ((due.length : Int)).toNat = due.length by omega]
    refine forD_map (fun xs ρ' M' => M = M' ∧ ∃ (i m : Nat) (o2 o3 : Option Dt), xs = rngD (i : Int) m ∧ i + m = due.length ∧ ρ' = [some (.loc k), some (.lst (due.map frD)), o2, o3]) (fun x xs ρ' M' hj nxt => ?_) (fun ρ' M' hj => ?_) _ _ _ ⟨rfl, 0, due.length, none, none, rfl, by omega, rfl⟩
    · obtain ⟨rfl, i, m, o2, o3, ex, im, rfl⟩ := hj
      obtain ⟨m', rfl, rfl, rfl⟩ := rngD_cons ex
      have il : i < due.length := by omega
      have rd : ∀ q : DQ, q (frD (due.getD i (0, 1))) M → fIx (.loc k) (.int (i : Int)) M q := fun q hq => fIx_seq (d := .loc k) (seq_at hk) (fr_at il) hq
      have rd2 : ∀ q : DQ, q (frD (due.getD i (0, 1))) M → fIx (.lst (due.map frD)) (.int (i : Int)) M q := fun q hq => fIx_seq (d := .lst (due.map frD)) rfl (fr_at il) hq
      generalize due.getD i (0, 1) = p at *
      dsimp only [sForK, iSeqK]
      dsimp only [gN, sFor, iRng, dFrz, dFz, sSeq, sNext, sIf, sRet, sSet, sDrop, sRaise, dCall, dFn, dOp, dUn, dVar, dC, aNil, aCons, dTup, dLst, tstD, andT, orT, notT, dAnd, dOr, dNot, dIf, dSM, startD, List.map_cons, List.map_nil, List.length_cons, List.length_nil, List.cons_append, List.nil_append, List.replicate, List.getElem?_cons_zero, List.getElem?_cons_succ, List.set_cons_zero, List.set_cons_succ, Nat.reduceSub, Nat.reduceAdd, Nat.zero_add]
      refine rd _ ?_
      refine ⟨_, _, _, _, true, rfl, rfl, rfl, k_self, fun z => (nomatch z), fun _ => ?_⟩
      refine rd _ ?_
      refine (fLen_seq (d := frD p) (xs := [.int p.1, .int p.2]) rfl ?_ : fLen [frD p] _ _)
      refine ⟨fun z => (nomatch z), fun _ => ?_⟩
      refine rd _ ?_
      refine rd2 _ ?_
      refine ne_self ?_
      refine ⟨fun z => (nomatch z), fun _ => ?_⟩
      dsimp only [sForK, iSeqK]
      dsimp only [gN, sFor, iRng, dFrz, dFz, sSeq, sNext, sIf, sRet, sSet, sDrop, sRaise, dCall, dFn, dOp, dUn, dVar, dC, aNil, aCons, dTup, dLst, tstD, andT, orT, notT, dAnd, dOr, dNot, dIf, dSM, startD, List.map_cons, List.map_nil, List.length_cons, List.length_nil, List.cons_append, List.nil_append, List.replicate, List.getElem?_cons_zero, List.getElem?_cons_succ, List.set_cons_zero, List.set_cons_succ, Nat.reduceSub, Nat.reduceAdd, Nat.zero_add]
      refine rd _ ?_
      refine forK_map (fun zs ρ' M' => M = M' ∧ ∃ (rest : List Int) (o3 : Option Dt), zs = rest.map Dt.int ∧ ρ' = [some (.loc k), some (.lst (due.map frD)), some (.int i), o3]) (fun zs ρ' M' hj => trivial) (fun x zs ρ' M' hj nxt => ?_) (fun ρ' M' hj => ?_) _ _ _ ⟨rfl, [p.1, p.2], o3, rfl, rfl⟩
      · obtain ⟨rfl, rest, o3, ex, rfl⟩ := hj
        cases rest with
        | nil => cases ex
        | cons c rest =>
          cases ex
          refine ⟨_, _, _, _, true, rfl, rfl, rfl, k_self, fun z => (nomatch z), fun _ => ?_⟩
          exact ⟨_, _, _, _, false, rfl, rfl, rfl, E.ib, fun z => (nomatch z), fun _ => nxt _ _ ⟨rfl, rest, _, rfl, rfl⟩⟩
      · obtain ⟨rfl, rest, o3, ex, rfl⟩ := hj
        exact nxt _ _ ⟨rfl, i + 1, m', _, _, by rw [Int.natCast_add]; rfl, by omega, rfl⟩
    · obtain ⟨rfl, i, m, o2, o3, ex, im, rfl⟩ := hj
      exact h
end
end Pg


set_option Elab.async false
set_option linter.all false
set_option maxRecDepth 100000
set_option maxHeartbeats 4000000
namespace Pg
open PySem L2 Fr0 Tx
theorem eqV_int (i : Int) : eqV (V.int i) (V.int i) = true := by unfold eqV; simp
theorem all_true {l : List Nat} {f : Nat → Bool} (h : ∀ j, f j = true) : l.all f = true := List.all_eq_true.mpr fun j _ => h j
theorem eqM_int {M : Ms} {n : Nat} (i : Int) : EqM M n (.int i) (.int i) true := by
  have := EqM.flat (M := M) (n := n) (d := .int i) (e := .int i) rfl rfl
  rwa [eqV_int] at this
theorem eqM_lst {M : Ms} {n : Nat} {d e : Dt} {ds : List Dt} (h1 : lstQ M d = some ds) (h2 : lstQ M e = some ds) (h : ∀ d ∈ ds, EqM M n d d true) : EqM M (n + 1) d e true := by
  have := EqM.lst (M := M) (n := n) (d := d) (e := e) (f := fun _ => true) h1 h2 rfl fun j d e h1 h2 => by
    rw [h1] at h2; cases h2; exact h d (List.mem_of_getElem? h1)
  rwa [all_true fun _ => rfl] at this
theorem eqM_ml {M : Ms} (rows : List (List Int)) : EqM M 2 (mlD rows) (mlD rows) true := eqM_lst rfl rfl fun d hd => by
  obtain ⟨r, _, rfl⟩ := List.mem_map.mp hd
  exact eqM_lst rfl rfl fun d hd => by
    obtain ⟨i, _, rfl⟩ := List.mem_map.mp hd
    exact eqM_int i
theorem sum_len {r : List Int} {due : List Fr} : (sumOf r due).length = r.length + 1 := by unfold sumOf; simp
theorem sum_at {r : List Int} {due : List Fr} {x : Nat} (h : x < r.length) : (sumOf r due).getD x 0 = r.getD x 0 * pr due := by
  unfold sumOf
  rw [List.getD_eq_getElem?_getD, List.getElem?_append_left (by simpa using h), List.getElem?_map, List.getElem?_eq_getElem h, List.getD_eq_getElem?_getD, List.getElem?_eq_getElem h]; rfl
theorem sum_last {r : List Int} {due : List Fr} : (sumOf r due).getD r.length 0 = totOf r due := by
  unfold sumOf
  rw [List.getD_eq_getElem?_getD, List.getElem?_append_right (by simp), List.length_map, Nat.sub_self]; rfl
section
variable {R : List (List Int)} {due : List Fr} {u : Nat} {F : Int}
theorem arr_row {k : Nat} (hk : k < R.length) : (R.map (sumOf · due)).getD k [] = sumOf (R.getD k []) due := by
  rw [List.getD_eq_getElem?_getD, List.getElem?_map, List.getElem?_eq_getElem hk, List.getD_eq_getElem?_getD, List.getElem?_eq_getElem hk]; rfl
theorem z_ab (dl : due.length = u) (hok : ∀ p ∈ due, FrOk u p) {x : Nat} (hx : x < u) : Bz.Ab (zOf due x) (10 ^ 30 * 10 ^ 30) := by
  obtain ⟨P0, P1⟩ := pr_ok dl hok
  have ok := hok _ (mem_at (show x < due.length by omega))
  have q0 : 0 ≤ pr due / (due.getD x (0, 1)).2 := Int.ediv_nonneg (by omega) (Int.le_of_lt ok.pos)
  have q1 : pr due / (due.getD x (0, 1)).2 ≤ pr due := Int.ediv_le_self _ (by omega)
  have t := ok.top
  exact Bz.Ab.mul ⟨by omega, by omega⟩ ⟨by omega, by omega⟩
theorem rows_ok (dl : due.length = u) (hok : ∀ p ∈ due, FrOk u p) (u12 : u ≤ 12) (F1 : 1 ≤ F) (F2 : F ≤ 10 ^ 20) (r1 : 1 ≤ R.length) (r12 : R.length ≤ 12) (rws : Rws R u (F * 4 ^ 15)) : RowsOk (R.map (sumOf · due)) u (12 * (10 ^ 20 * 4 ^ 15 * (10 ^ 30 * 10 ^ 30))) where
  n1 := by rw [List.length_map]; exact r1
  n12 := by rw [List.length_map]; exact r12
  u12 := u12
  ml := fun r hr => by
    obtain ⟨s, hs, rfl⟩ := List.mem_map.mp hr
    rw [sum_len, rws.wid s hs]
  bd := ⟨by decide, fun k x hk hx => by
    rw [List.length_map] at hk
    unfold Bz.arr
    rw [arr_row hk]
    obtain ⟨P0, P1⟩ := pr_ok dl hok
    have rws : Rws R u (10 ^ 20 * 4 ^ 15) := rws.le (by omega)
    have rl : (R.getD k []).length = u := len_at rws hk
    have a : ∀ x, x < u → Bz.Ab ((R.getD k []).getD x 0) (10 ^ 20 * 4 ^ 15) := fun x hx => rws.at_ hk hx
    rcases Nat.lt_or_ge x u with z | z
    · rw [sum_at (by omega)]
      exact ((a x z).mul (show Bz.Ab (pr due) (10 ^ 30) from ⟨by omega, by omega⟩)).mono (by decide)
    · have : x = (R.getD k []).length := by omega
      rw [this, sum_last]
      unfold totOf
      rw [dl]
      refine (Bz.Ab.sum fun i hi => (a i hi).mul (z_ab dl hok hi)).mono ?_
      exact Int.mul_le_mul_of_nonneg_right (by omega) (by decide)⟩
  b450 := by decide
theorem rows_sol (dl : due.length = u) (rws : Rws R u (F * 4 ^ 15)) : Bz.Sol (Bz.arr (R.map (sumOf · due))) (R.map (sumOf · due)).length u (zOf due) (pr due) := fun k hk => by
  rw [List.length_map] at hk
  have rl : (R.getD k []).length = u := len_at rws hk
  unfold Bz.arr
  rw [arr_row hk]
  have e : (sumOf (R.getD k []) due).getD u 0 = totOf (R.getD k []) due := by have := sum_last (r := R.getD k []) (due := due); rwa [rl] at this
  rw [e]
  unfold totOf
  rw [dl, ← Bz.ssum_mul]
  refine Bz.ssum_congr fun x hx => ?_
  rw [sum_at (by omega)]
  grind
theorem rows_ker (dl : due.length = u) (hok : ∀ p ∈ due, FrOk u p) (rws : Rws R u (F * 4 ^ 15)) (ker : Ker R u) : ∀ y : Bz.Row, (∀ k, k < (R.map (sumOf · due)).length → Bz.ssum (fun x => Bz.arr (R.map (sumOf · due)) k x * y x) u = 0) → ∀ x, x < u → y x = 0 := fun y hy => by
  obtain ⟨P0, P1⟩ := pr_ok dl hok
  refine ker y fun r hr => ?_
  obtain ⟨k, hk, e⟩ := List.getElem_of_mem hr
  have h := hy k (by rw [List.length_map]; exact hk)
  have gk : R.getD k [] = r := by rw [List.getD_eq_getElem?_getD, List.getElem?_eq_getElem hk]; exact e
  have rl : r.length = u := rws.wid r hr
  have e2 : Bz.ssum (fun x => Bz.arr (R.map (sumOf · due)) k x * y x) u = pr due * Bz.ssum (fun x => r.getD x 0 * y x) u := by
    rw [← Bz.ssum_mul]
    refine Bz.ssum_congr fun x hx => ?_
    unfold Bz.arr
    rw [arr_row hk, gk, sum_at (by omega)]
    grind
  rw [e2] at h
  rcases Int.mul_eq_zero.mp h with z | z
  · omega
  · exact z
theorem due_is (hok : ∀ p ∈ due, FrOk u p) {i : Nat} (hi : i < due.length) : 0 < (due.getD i (0, 1)).2 ∧ Int.gcd (due.getD i (0, 1)).1 (due.getD i (0, 1)).2 = 1 ∧ pr due * (due.getD i (0, 1)).1 = zOf due i * (due.getD i (0, 1)).2 := by
  have ok := hok _ (mem_at hi)
  refine ⟨ok.pos, ok.gcd, ?_⟩
  unfold zOf
  have := Int.ediv_mul_cancel (pr_dvd (mem_at hi))
  rw [Int.mul_assoc, this, Int.mul_comm]
end
section
variable {P : Program} {w : World} {K : PySem.W.Frag} {mg : Str → Option Value} {base : Heap} {CN : Addr}
theorem scLaw : FnScope ["_law_script", "_law_wide_here", "_law_due", "_law_asked", "_law_handed", "_law_found"] ["_law_script"] (defScope sLaw) := ⟨rfl, rfl, rfl, by decide +kernel, rfl, by decide +kernel, by decide +kernel⟩
theorem ok_Law {f : Addr} {fd : FuncData} (F : Fun K "law" "law" sLaw f fd) (E : Ev K mg CN) {fLawWide : Addr} {dLawWide : FuncData} (c_LawWide : CalD P w K mg base 1 "_law_wide" ["_law_cell_here"] TWide fLawWide dLawWide) {fLawAt : Addr} {dLawAt : FuncData} (c_LawAt : CalD P w K mg base 1 "_law_at" ["_law_script", "_law_k"] TAt fLawAt dLawAt) {fLawNumbers : Addr} {dLawNumbers : FuncData} (c_LawNumbers : CalD P w K mg base 3 "_law_numbers" ["_law_script", "_law_wide_here"] TNums fLawNumbers dLawNumbers) {fLawRows : Addr} {dLawRows : FuncData} (c_LawRows : CalD P w K mg base 4 "_law_rows" ["_law_script", "_law_wide_here"] TRows fLawRows dLawRows) {fLawWithSum : Addr} {dLawWithSum : FuncData} (c_LawWithSum : CalD P w K mg base 1 "_law_with_sum" ["_law_row", "_law_some"] TSum fLawWithSum dLawWithSum) {fAnswerOf : Addr} {dAnswerOf : FuncData} (c_AnswerOf : CalD P w K mg base 4 "answer_of" ["rows"] TAnswer fAnswerOf dAnswerOf) {fLawTold : Addr} {dLawTold : FuncData} (c_LawTold : CalD P w K mg base 1 "_law_told" ["_law_found", "_law_due"] TTold fLawTold dLawTold) : FnOk P w K mg base (CX1 P w) 6 f fd ["_law_script"] (spD K TLaw) := by
  refine F.okD scLaw (fun ds M q x h => ?_) (fun cdv A outer s H E' hr => ⟨_, (jss_cons (js_set (i := 1) scLaw.nd rfl (Or.inl rfl) (j_fn c_LawWide hr passes1 (ja_cons (j_fn c_LawAt hr passes1 (ja_cons (jv 0) (ja_cons jint ja_nil (hs := starC)) (hs := starN))) ja_nil (hs := starF))))
      (jss_cons (js_set (i := 2) scLaw.nd rfl (Or.inr rfl) (je_fz (j_fn c_LawNumbers hr passes1 (ja_cons (jv 0) (ja_cons (jv 1) ja_nil (hs := starN)) (hs := starN)))))
      (jss_cons (js_setcompK (i := 3) scLaw.nd rfl (Or.inl rfl) (ys := ["_law_due"]) (caps := [2]) ⟨rfl, by decide +kernel, by decide +kernel, rfl, (by show ∀ p : Str × NameKind, p ∈ _ → p.2 = NameKind.free → List.lookup p.1 (defScope sLaw).names = some .cell; decide +kernel), by decide +kernel, (by show ∀ q : Str × Nat, q ∈ _ → (["_law_script", "_law_wide_here", "_law_due", "_law_asked", "_law_handed", "_law_found"] : List Str)[q.2]? = some q.1 ∧ List.lookup q.1 (defScope sLaw).names = some .cell ∧ _; decide +kernel), rfl⟩ (jk_seq (je_fz (j_fn c_LawRows hr passes1 (ja_cons (jv 0) (ja_cons (jv 1) ja_nil (hs := starN)) (hs := starN))))) (fun C s H fp => (j_fn c_LawWithSum hr (passesN (P := P) (w := w)) (ja_cons (jv 0) (ja_cons (jv 1) ja_nil (hs := starN)) (hs := starN)))))
      (jss_cons (js_setcompK (i := 4) scLaw.nd rfl (Or.inl rfl) (ys := []) (caps := []) ⟨rfl, by decide +kernel, by decide +kernel, rfl, (by show ∀ p : Str × NameKind, p ∈ _ → p.2 = NameKind.free → List.lookup p.1 (defScope sLaw).names = some .cell; decide +kernel), by decide +kernel, (by show ∀ q : Str × Nat, q ∈ _ → (["_law_script", "_law_wide_here", "_law_due", "_law_asked", "_law_handed", "_law_found"] : List Str)[q.2]? = some q.1 ∧ List.lookup q.1 (defScope sLaw).names = some .cell ∧ _; decide +kernel), rfl⟩ (jk_seq (jv 3)) (fun C s H fp => (je_fz (j_list E.n_list (ja_cons (jv 0) ja_nil (hs := starN))))))
      (jss_cons (js_set (i := 5) scLaw.nd rfl (Or.inl rfl) (j_fn c_AnswerOf hr passes1 (ja_cons (jv 4) ja_nil (hs := starN))))
      (jss_cons (js_if (JW.jt (jw_or (jt_neM 2 hr (jv 4) (jv 3)) (jw_or1 (jt_not (jt_val (j_fn c_LawTold hr passes1 (ja_cons (jv 5) (ja_cons (jv 2) ja_nil (hs := starN)) (hs := starN)))))))) (jss_one (js_ret jbl)) jss_nil)
      (jss_cons (js_setix (jv 5) jint (j_tup (ja_cons (j_add (j_ix (j_ix (jv 5) jint) jint) jint) (ja_cons (j_ix (j_ix (jv 5) jint) jint) ja_nil (hs := starX)) (hs := starB))))
      (jss_one (js_ret (je_and (j_fn c_LawTold hr passes1 (ja_cons (j_fn c_AnswerOf hr passes1 (ja_cons (jv 4) ja_nil (hs := starN))) (ja_cons (jv 2) ja_nil (hs := starN)) (hs := starF))) (je_one (j_eqM 2 hr (jv 4) (jv 3))))))))))))), fun ds M q x h => ?_⟩)
  · obtain ⟨ns, rfl, _⟩ := h; rfl
  · obtain ⟨ns, rfl, nl, h⟩ := h
    refine ⟨ns, 0, rfl, nl, by decide, by decide, fun c hc => ?_⟩
    refine ⟨c, rfl, hc, fun u u1 u12 => ?_⟩
    refine ⟨ns, u, rfl, nl, u1, u12, fun due dl hok => ?_⟩
    have un : Dt.underL M.length (due.map frD) := by
      clear dl hok h
      induction due with
      | nil => trivial
      | cons p l ih => exact ⟨⟨trivial, trivial, trivial⟩, ih⟩
    refine fz_loc un ?_
    dsimp only [dCompK, iSeqK, dFz]
    dsimp only [gN, sFor, iRng, dFrz, dFz, sSeq, sNext, sIf, sRet, sSet, sDrop, sRaise, dCall, dFn, dOp, dUn, dVar, dC, aNil, aCons, dTup, dLst, tstD, andT, orT, notT, dAnd, dOr, dNot, dIf, dSM, startD, List.map_cons, List.map_nil, List.length_cons, List.length_nil, List.cons_append, List.nil_append, List.replicate, List.getElem?_cons_zero, List.getElem?_cons_succ, List.set_cons_zero, List.set_cons_succ, Nat.reduceSub, Nat.reduceAdd, Nat.zero_add]
    refine ⟨ns, u, rfl, nl, u1, u12, fun E0 d R F0 hf F1 F2 F9 r1 r12 rws ker => fz_new hf ?_⟩
    refine ⟨by rw [List.length_map]; exact Nat.le_trans r12 (by decide), ?_⟩
    refine compK_pair (F := fun x r => x = ilD r ∧ r ∈ R) (f := fun r => ilD (sumOf r due)) (as := R) trivial (fun x r hx qq hq => ?_) (prd_self ilD R R fun x hx => hx) ?_
    · obtain ⟨rfl, hr⟩ := hx
      exact ⟨r, due, u, rfl, rws.wid r hr, dl, u12, hok, fun x hx => (rws.ab r hr x hx).mono (by omega), hq⟩
    rw [List.nil_append, show (R.map fun r => ilD (sumOf r due)) = (R.map (sumOf · due)).map ilD by rw [List.map_map]; rfl]
    have ro := rows_ok dl hok u12 F1 F2 r1 r12 rws
    have sol := rows_sol dl rws
    have kr := rows_ker dl hok rws ker
    have P0 := (pr_ok dl hok).1
    generalize R.map (sumOf · due) = rows at *
    refine ⟨by rw [List.length_map]; exact Nat.le_trans ro.n12 (by decide), ?_⟩
    refine compK_pair (F := fun x r => x = ilD r ∧ r ∈ rows) (f := fun r => ilD r) (as := rows) trivial (fun x r hx qq hq => ?_) (prd_self ilD rows rows fun x hx => hx) ?_
    · obtain ⟨rfl, hr⟩ := hx
      exact fz_loc (ints_un _) hq
    rw [List.nil_append]
    have ans : ∀ (M' : Ms) (qq : DQ) (x : DXF), qq (.loc M'.length) (M' ++ [.lst (due.map frD)]) → TAnswer [mlD rows] M' qq x := fun M' qq x hq => ⟨rows, u, _, due, zOf due, pr due, rfl, ro, u1, dl, sol, by omega, fun i hi => due_is hok (by omega), kr, hq⟩
    refine ans M _ _ ?_
    refine ⟨true, .inr ⟨_, rfl⟩, .inr ⟨_, rfl⟩, eqM_ml rows, fun z => (nomatch z), fun _ => ?_⟩
    refine ⟨M.length, due, rfl, at_new, by omega, fun z => (nomatch z), fun _ => ?_⟩
    have rd : ∀ q : DQ, q (frD (due.getD 0 (0, 1))) (M ++ [.lst (due.map frD)]) → fIx (.loc M.length) (.int 0) (M ++ [.lst (due.map frD)]) q := fun q hq => fIx_seq (d := .loc M.length) (seq_at at_new) (fr_at (j := 0) (by omega)) hq
    generalize due.getD 0 (0, 1) = p at rd
    dsimp only [sSetIx]
    dsimp only [gN, sFor, iRng, dFrz, dFz, sSeq, sNext, sIf, sRet, sSet, sDrop, sRaise, dCall, dFn, dOp, dUn, dVar, dC, aNil, aCons, dTup, dLst, tstD, andT, orT, notT, dAnd, dOr, dNot, dIf, dSM, startD, List.map_cons, List.map_nil, List.length_cons, List.length_nil, List.cons_append, List.nil_append, List.replicate, List.getElem?_cons_zero, List.getElem?_cons_succ, List.set_cons_zero, List.set_cons_succ, Nat.reduceSub, Nat.reduceAdd, Nat.zero_add]
    refine rd _ ?_
    refine (fr_0 ?_ : fIx (frD p) (.int 0) _ _)
    dsimp only [fAdd]
    refine rd _ ?_
    refine (fr_1 ?_ : fIx (frD p) (.int 1) _ _)
    refine ⟨by show 2 ≤ sizeLine; decide, ?_⟩
    refine ⟨M.length, 0, _, 0, rfl, rfl, at_new, by rw [List.length_map]; exact ix_nat (p := 0) (by omega), ?_⟩
    rw [set_new]
    generalize M ++ [MO.lst ((due.map frD).set 0 (.tup [.int (p.1 + 1), .int p.2]))] = M1
    refine ans M1 _ _ ?_
    refine ⟨M1.length, due, rfl, at_new, by omega, ?_⟩
    exact ⟨fun _ => ⟨true, .inr ⟨_, rfl⟩, .inr ⟨_, rfl⟩, eqM_ml rows, h _⟩, fun z => (nomatch z)⟩
end
end Pg


set_option Elab.async false
set_option linter.all false
set_option maxRecDepth 100000
set_option maxHeartbeats 4000000
namespace Pg
open PySem L2 Fr0 Tx
theorem len_1 {P : List Value → Prop} (h : ∀ a0 : Value, P [a0]) : ∀ us : List Value, us.length = 1 → P us
  | [a0], _ => h a0
theorem len_2 {P : List Value → Prop} (h : ∀ a0 a1 : Value, P [a0, a1]) : ∀ us : List Value, us.length = 2 → P us
  | [a0, a1], _ => h a0 a1
theorem len_3 {P : List Value → Prop} (h : ∀ a0 a1 a2 : Value, P [a0, a1, a2]) : ∀ us : List Value, us.length = 3 → P us
  | [a0, a1, a2], _ => h a0 a1 a2
theorem len_4 {P : List Value → Prop} (h : ∀ a0 a1 a2 a3 : Value, P [a0, a1, a2, a3]) : ∀ us : List Value, us.length = 4 → P us
  | [a0, a1, a2, a3], _ => h a0 a1 a2 a3
theorem kit_int_bool {K : PySem.W.Frag} (h : PySem.W.subIn K (.type "int") (.type "bool") = some false) : PySem.W.kitOne K (.type "int") (.type "bool") = some false := by
  unfold PySem.W.kitOne PySem.W.kitCls
  rw [if_neg (by decide +kernel)]
  show (if PySem.W.kitMeta "bool" = true then _ else _) = _
  rw [if_pos (by decide +kernel)]
  exact h
theorem kit_int_str {K : PySem.W.Frag} (h : PySem.W.subIn K (.type "int") (.type "str") = some false) : PySem.W.kitOne K (.type "int") (.type "str") = some false := by
  unfold PySem.W.kitOne PySem.W.kitCls
  rw [if_neg (by decide +kernel)]
  show (if PySem.W.kitMeta "str" = true then _ else _) = _
  rw [if_pos (by decide +kernel)]
  exact h
theorem kit_tuple_str {K : PySem.W.Frag} (h : PySem.W.subIn K (.type "tuple") (.type "str") = some false) : PySem.W.kitOne K (.type "tuple") (.type "str") = some false := by
  unfold PySem.W.kitOne PySem.W.kitCls
  rw [if_neg (by decide +kernel)]
  show (if PySem.W.kitMeta "str" = true then _ else _) = _
  rw [if_pos (by decide +kernel)]
  exact h
theorem kit_tuple_int {K : PySem.W.Frag} (h : PySem.W.subIn K (.type "tuple") (.type "int") = some false) : PySem.W.kitOne K (.type "tuple") (.type "int") = some false := by
  unfold PySem.W.kitOne PySem.W.kitCls
  rw [if_neg (by decide +kernel)]
  show (if PySem.W.kitMeta "int" = true then _ else _) = _
  rw [if_pos (by decide +kernel)]
  exact h
theorem kit_list_str {K : PySem.W.Frag} (h : PySem.W.subIn K (.type "list") (.type "str") = some false) : PySem.W.kitOne K (.type "list") (.type "str") = some false := by
  unfold PySem.W.kitOne PySem.W.kitCls
  rw [if_neg (by decide +kernel)]
  show (if PySem.W.kitMeta "str" = true then _ else _) = _
  rw [if_pos (by decide +kernel)]
  exact h
theorem kit_list_int {K : PySem.W.Frag} (h : PySem.W.subIn K (.type "list") (.type "int") = some false) : PySem.W.kitOne K (.type "list") (.type "int") = some false := by
  unfold PySem.W.kitOne PySem.W.kitCls
  rw [if_neg (by decide +kernel)]
  show (if PySem.W.kitMeta "int" = true then _ else _) = _
  rw [if_pos (by decide +kernel)]
  exact h
theorem kit_tuple_list {K : PySem.W.Frag} (h : PySem.W.subIn K (.type "tuple") (.type "list") = some false) : PySem.W.kitOne K (.type "tuple") (.type "list") = some false := by
  unfold PySem.W.kitOne PySem.W.kitCls
  rw [if_neg (by decide +kernel)]
  show (if PySem.W.kitMeta "list" = true then _ else _) = _
  rw [if_pos (by decide +kernel)]
  exact h
theorem kit_list_tuple {K : PySem.W.Frag} (h : PySem.W.subIn K (.type "list") (.type "tuple") = some false) : PySem.W.kitOne K (.type "list") (.type "tuple") = some false := by
  unfold PySem.W.kitOne PySem.W.kitCls
  rw [if_neg (by decide +kernel)]
  show (if PySem.W.kitMeta "tuple" = true then _ else _) = _
  rw [if_pos (by decide +kernel)]
  exact h
theorem all_mk {l : PySem.W.OpenLaw} {w : World} {K : PySem.W.Frag} {h : Heap} {mg : Str → Option Value} {fa CNoNumber f1 f2 f3 f4 f5 f6 f7 f8 f9 f10 f11 f12 f13 f14 f15 f16 f17 f18 f19 f20 : Addr} (X : K.In h) (G : h.Ns mainGlobals mg) (hfa : mg "law" = some (.ref fa))
    {od1 an1 od2 an2 od3 an3 od4 an4 od5 an5 od6 an6 od7 an7 od8 an8 od9 an9 od10 an10 od11 an11 od12 an12 od13 an13 od14 an14 od15 an15 od16 an16 od17 an17 od18 an18 od19 an19 od20 an20 : Option Addr} {sl1 sl2 sl3 sl4 sl5 sl6 sl7 sl8 sl9 sl10 sl11 sl12 sl13 sl14 sl15 sl16 sl17 sl18 sl19 sl20 : Array (Option Value)} {oc1 kV1 dc1 pm1 cd1 ct1 oc2 kV2 dc2 pm2 cd2 ct2 oc3 kV3 dc3 pm3 cd3 ct3 oc4 kV4 dc4 pm4 cd4 ct4 oc5 kV5 dc5 pm5 cd5 ct5 oc6 kV6 dc6 pm6 cd6 ct6 oc7 kV7 dc7 pm7 cd7 ct7 oc8 kV8 dc8 pm8 cd8 ct8 oc9 kV9 dc9 pm9 cd9 ct9 oc10 kV10 dc10 pm10 cd10 ct10 oc11 kV11 dc11 pm11 cd11 ct11 oc12 kV12 dc12 pm12 cd12 ct12 oc13 kV13 dc13 pm13 cd13 ct13 oc14 kV14 dc14 pm14 cd14 ct14 oc15 kV15 dc15 pm15 cd15 ct15 oc16 kV16 dc16 pm16 cd16 ct16 oc17 kV17 dc17 pm17 cd17 ct17 oc18 kV18 dc18 pm18 cd18 ct18 oc19 kV19 dc19 pm19 cd19 ct19 oc20 kV20 dc20 pm20 cd20 ct20 : Value}
    (aENoNumber : PySem.W.nsIn K mainGlobals "NoNumber" = some (some (.ref CNoNumber))) (xENoNumber : PySem.W.excIn K CNoNumber [.type "ValueError", .type "Exception", .type "BaseException", .type "object"] "ValueError.__new__" = true)
    (ks_int_bool : PySem.W.subIn K (.type "int") (.type "bool") = some false)
    (ks_int_str : PySem.W.subIn K (.type "int") (.type "str") = some false)
    (ks_tuple_str : PySem.W.subIn K (.type "tuple") (.type "str") = some false)
    (ks_tuple_int : PySem.W.subIn K (.type "tuple") (.type "int") = some false)
    (ks_list_str : PySem.W.subIn K (.type "list") (.type "str") = some false)
    (ks_list_int : PySem.W.subIn K (.type "list") (.type "int") = some false)
    (ks_tuple_list : PySem.W.subIn K (.type "tuple") (.type "list") = some false)
    (ks_list_tuple : PySem.W.subIn K (.type "list") (.type "tuple") = some false)
    (a1 : PySem.W.nsIn K mainGlobals "_law_wide" = some (some (.ref f1))) (l1 : K.lookup f1 = some ⟨oc1, od1, .func (PySem.W.fnOf "_law_wide" "_law_wide" (defArgs sLawWide) (defBody sLawWide) (defScope sLawWide) .none kV1 dc1 pm1 an1 cd1 ct1), sl1⟩) (c1 : PySem.W.codeIn K cd1 "_law_wide" = true) (k1 : PySem.W.keepIn K (.ref f1) = true)
    (a2 : PySem.W.nsIn K mainGlobals "_law_at" = some (some (.ref f2))) (l2 : K.lookup f2 = some ⟨oc2, od2, .func (PySem.W.fnOf "_law_at" "_law_at" (defArgs sLawAt) (defBody sLawAt) (defScope sLawAt) .none kV2 dc2 pm2 an2 cd2 ct2), sl2⟩) (c2 : PySem.W.codeIn K cd2 "_law_at" = true) (k2 : PySem.W.keepIn K (.ref f2) = true)
    (a3 : PySem.W.nsIn K mainGlobals "_law_cell" = some (some (.ref f3))) (l3 : K.lookup f3 = some ⟨oc3, od3, .func (PySem.W.fnOf "_law_cell" "_law_cell" (defArgs sLawCell) (defBody sLawCell) (defScope sLawCell) .none kV3 dc3 pm3 an3 cd3 ct3), sl3⟩) (c3 : PySem.W.codeIn K cd3 "_law_cell" = true) (k3 : PySem.W.keepIn K (.ref f3) = true)
    (a4 : PySem.W.nsIn K mainGlobals "_law_lowest" = some (some (.ref f4))) (l4 : K.lookup f4 = some ⟨oc4, od4, .func (PySem.W.fnOf "_law_lowest" "_law_lowest" (defArgs sLawLowest) (defBody sLawLowest) (defScope sLawLowest) .none kV4 dc4 pm4 an4 cd4 ct4), sl4⟩) (c4 : PySem.W.codeIn K cd4 "_law_lowest" = true) (k4 : PySem.W.keepIn K (.ref f4) = true)
    (a5 : PySem.W.nsIn K mainGlobals "_law_numbers" = some (some (.ref f5))) (l5 : K.lookup f5 = some ⟨oc5, od5, .func (PySem.W.fnOf "_law_numbers" "_law_numbers" (defArgs sLawNumbers) (defBody sLawNumbers) (defScope sLawNumbers) .none kV5 dc5 pm5 an5 cd5 ct5), sl5⟩) (c5 : PySem.W.codeIn K cd5 "_law_numbers" = true) (k5 : PySem.W.keepIn K (.ref f5) = true)
    (a6 : PySem.W.nsIn K mainGlobals "_law_order" = some (some (.ref f6))) (l6 : K.lookup f6 = some ⟨oc6, od6, .func (PySem.W.fnOf "_law_order" "_law_order" (defArgs sLawOrder) (defBody sLawOrder) (defScope sLawOrder) .none kV6 dc6 pm6 an6 cd6 ct6), sl6⟩) (c6 : PySem.W.codeIn K cd6 "_law_order" = true) (k6 : PySem.W.keepIn K (.ref f6) = true)
    (a7 : PySem.W.nsIn K mainGlobals "_law_corner" = some (some (.ref f7))) (l7 : K.lookup f7 = some ⟨oc7, od7, .func (PySem.W.fnOf "_law_corner" "_law_corner" (defArgs sLawCorner) (defBody sLawCorner) (defScope sLawCorner) .none kV7 dc7 pm7 an7 cd7 ct7), sl7⟩) (c7 : PySem.W.codeIn K cd7 "_law_corner" = true) (k7 : PySem.W.keepIn K (.ref f7) = true)
    (a8 : PySem.W.nsIn K mainGlobals "_law_rows" = some (some (.ref f8))) (l8 : K.lookup f8 = some ⟨oc8, od8, .func (PySem.W.fnOf "_law_rows" "_law_rows" (defArgs sLawRows) (defBody sLawRows) (defScope sLawRows) .none kV8 dc8 pm8 an8 cd8 ct8), sl8⟩) (c8 : PySem.W.codeIn K cd8 "_law_rows" = true) (k8 : PySem.W.keepIn K (.ref f8) = true)
    (a9 : PySem.W.nsIn K mainGlobals "_law_with_sum" = some (some (.ref f9))) (l9 : K.lookup f9 = some ⟨oc9, od9, .func (PySem.W.fnOf "_law_with_sum" "_law_with_sum" (defArgs sLawWithSum) (defBody sLawWithSum) (defScope sLawWithSum) .none kV9 dc9 pm9 an9 cd9 ct9), sl9⟩) (c9 : PySem.W.codeIn K cd9 "_law_with_sum" = true) (k9 : PySem.W.keepIn K (.ref f9) = true)
    (a10 : PySem.W.nsIn K mainGlobals "with_weights" = some (some (.ref f10))) (l10 : K.lookup f10 = some ⟨oc10, od10, .func (PySem.W.fnOf "with_weights" "with_weights" (defArgs sWithWeights) (defBody sWithWeights) (defScope sWithWeights) .none kV10 dc10 pm10 an10 cd10 ct10), sl10⟩) (c10 : PySem.W.codeIn K cd10 "with_weights" = true) (k10 : PySem.W.keepIn K (.ref f10) = true)
    (a11 : PySem.W.nsIn K mainGlobals "number_of_head" = some (some (.ref f11))) (l11 : K.lookup f11 = some ⟨oc11, od11, .func (PySem.W.fnOf "number_of_head" "number_of_head" (defArgs sNumberOfHead) (defBody sNumberOfHead) (defScope sNumberOfHead) .none kV11 dc11 pm11 an11 cd11 ct11), sl11⟩) (c11 : PySem.W.codeIn K cd11 "number_of_head" = true) (k11 : PySem.W.keepIn K (.ref f11) = true)
    (a12 : PySem.W.nsIn K mainGlobals "moved_ahead" = some (some (.ref f12))) (l12 : K.lookup f12 = some ⟨oc12, od12, .func (PySem.W.fnOf "moved_ahead" "moved_ahead" (defArgs sMovedAhead) (defBody sMovedAhead) (defScope sMovedAhead) .none kV12 dc12 pm12 an12 cd12 ct12), sl12⟩) (c12 : PySem.W.codeIn K cd12 "moved_ahead" = true) (k12 : PySem.W.keepIn K (.ref f12) = true)
    (a13 : PySem.W.nsIn K mainGlobals "cleared_line" = some (some (.ref f13))) (l13 : K.lookup f13 = some ⟨oc13, od13, .func (PySem.W.fnOf "cleared_line" "cleared_line" (defArgs sClearedLine) (defBody sClearedLine) (defScope sClearedLine) .none kV13 dc13 pm13 an13 cd13 ct13), sl13⟩) (c13 : PySem.W.codeIn K cd13 "cleared_line" = true) (k13 : PySem.W.keepIn K (.ref f13) = true)
    (a14 : PySem.W.nsIn K mainGlobals "cleared" = some (some (.ref f14))) (l14 : K.lookup f14 = some ⟨oc14, od14, .func (PySem.W.fnOf "cleared" "cleared" (defArgs sCleared) (defBody sCleared) (defScope sCleared) .none kV14 dc14 pm14 an14 cd14 ct14), sl14⟩) (c14 : PySem.W.codeIn K cd14 "cleared" = true) (k14 : PySem.W.keepIn K (.ref f14) = true)
    (a15 : PySem.W.nsIn K mainGlobals "common_divisor" = some (some (.ref f15))) (l15 : K.lookup f15 = some ⟨oc15, od15, .func (PySem.W.fnOf "common_divisor" "common_divisor" (defArgs sCommonDivisor) (defBody sCommonDivisor) (defScope sCommonDivisor) .none kV15 dc15 pm15 an15 cd15 ct15), sl15⟩) (c15 : PySem.W.codeIn K cd15 "common_divisor" = true) (k15 : PySem.W.keepIn K (.ref f15) = true)
    (a16 : PySem.W.nsIn K mainGlobals "fraction" = some (some (.ref f16))) (l16 : K.lookup f16 = some ⟨oc16, od16, .func (PySem.W.fnOf "fraction" "fraction" (defArgs sFraction) (defBody sFraction) (defScope sFraction) .none kV16 dc16 pm16 an16 cd16 ct16), sl16⟩) (c16 : PySem.W.codeIn K cd16 "fraction" = true) (k16 : PySem.W.keepIn K (.ref f16) = true)
    (a17 : PySem.W.nsIn K mainGlobals "quotients" = some (some (.ref f17))) (l17 : K.lookup f17 = some ⟨oc17, od17, .func (PySem.W.fnOf "quotients" "quotients" (defArgs sQuotients) (defBody sQuotients) (defScope sQuotients) .none kV17 dc17 pm17 an17 cd17 ct17), sl17⟩) (c17 : PySem.W.codeIn K cd17 "quotients" = true) (k17 : PySem.W.keepIn K (.ref f17) = true)
    (a18 : PySem.W.nsIn K mainGlobals "answer_of" = some (some (.ref f18))) (l18 : K.lookup f18 = some ⟨oc18, od18, .func (PySem.W.fnOf "answer_of" "answer_of" (defArgs sAnswerOf) (defBody sAnswerOf) (defScope sAnswerOf) .none kV18 dc18 pm18 an18 cd18 ct18), sl18⟩) (c18 : PySem.W.codeIn K cd18 "answer_of" = true) (k18 : PySem.W.keepIn K (.ref f18) = true)
    (a19 : PySem.W.nsIn K mainGlobals "_law_told" = some (some (.ref f19))) (l19 : K.lookup f19 = some ⟨oc19, od19, .func (PySem.W.fnOf "_law_told" "_law_told" (defArgs sLawTold) (defBody sLawTold) (defScope sLawTold) .none kV19 dc19 pm19 an19 cd19 ct19), sl19⟩) (c19 : PySem.W.codeIn K cd19 "_law_told" = true) (k19 : PySem.W.keepIn K (.ref f19) = true)
    (a20 : PySem.W.nsIn K mainGlobals "law" = some (some (.ref f20))) (l20 : K.lookup f20 = some ⟨oc20, od20, .func (PySem.W.fnOf "law" "law" (defArgs sLaw) (defBody sLaw) (defScope sLaw) .none kV20 dc20 pm20 an20 cd20 ct20), sl20⟩) (c20 : PySem.W.codeIn K cd20 "law" = true) (k20 : PySem.W.keepIn K (.ref f20) = true)
    (z_len : PySem.W.nsIn K mainGlobals "len" = some none)
    (z_abs : PySem.W.nsIn K mainGlobals "abs" = some none)
    (z_isinstance : PySem.W.nsIn K mainGlobals "isinstance" = some none)
    (z_int : PySem.W.nsIn K mainGlobals "int" = some none)
    (z_bool : PySem.W.nsIn K mainGlobals "bool" = some none)
    (z_str : PySem.W.nsIn K mainGlobals "str" = some none)
    (z_tuple : PySem.W.nsIn K mainGlobals "tuple" = some none)
    (z_list : PySem.W.nsIn K mainGlobals "list" = some none)
    (z_range : PySem.W.nsIn K mainGlobals "range" = some none)
    (z_enumerate : PySem.W.nsIn K mainGlobals "enumerate" = some none)
    (z_any : PySem.W.nsIn K mainGlobals "any" = some none)
    (z_all : PySem.W.nsIn K mainGlobals "all" = some none)
    (z_sum : PySem.W.nsIn K mainGlobals "sum" = some none)
    (z_zip : PySem.W.nsIn K mainGlobals "zip" = some none)
    (z_max : PySem.W.nsIn K mainGlobals "max" = some none)
    (z_min : PySem.W.nsIn K mainGlobals "min" = some none)
    : ∃ fd : FuncData, (∀ (s : Shared) (v : Value), BindsTo s fd ⟨[v], []⟩ [("_law_script", v)]) ∧ ∀ base : Heap, K.In base → base.Ns mainGlobals mg → FnOk l.prog w K mg base CX0 6 fa fd ["_law_script"] (spLaw K) := by
  have e := hfa.symm.trans (PySem.W.mg_of X G a20)
  cases e
  have mENoNumber := PySem.W.mg_of X G aENoNumber
  have ENoNumber : ExcCls K CNoNumber _ _ := ⟨xENoNumber⟩
  have F1 := fun_mk (st := sLawWide) l1 c1 k1
  have m1 := PySem.W.mg_of X G a1
  have b1 := F1.binds (ps := ["_law_cell_here"]) fun _ _ _ _ _ _ => len_1 fun _ => rfl
  have F2 := fun_mk (st := sLawAt) l2 c2 k2
  have m2 := PySem.W.mg_of X G a2
  have b2 := F2.binds (ps := ["_law_script", "_law_k"]) fun _ _ _ _ _ _ => len_2 fun _ _ => rfl
  have F3 := fun_mk (st := sLawCell) l3 c3 k3
  have m3 := PySem.W.mg_of X G a3
  have b3 := F3.binds (ps := ["_law_script", "_law_at_here", "_law_k", "_law_wide_here"]) fun _ _ _ _ _ _ => len_4 fun _ _ _ _ => rfl
  have F4 := fun_mk (st := sLawLowest) l4 c4 k4
  have m4 := PySem.W.mg_of X G a4
  have b4 := F4.binds (ps := ["_law_top", "_law_bottom"]) fun _ _ _ _ _ _ => len_2 fun _ _ => rfl
  have F5 := fun_mk (st := sLawNumbers) l5 c5 k5
  have m5 := PySem.W.mg_of X G a5
  have b5 := F5.binds (ps := ["_law_script", "_law_wide_here"]) fun _ _ _ _ _ _ => len_2 fun _ _ => rfl
  have F6 := fun_mk (st := sLawOrder) l6 c6 k6
  have m6 := PySem.W.mg_of X G a6
  have b6 := F6.binds (ps := ["_law_cell_here", "_law_many"]) fun _ _ _ _ _ _ => len_2 fun _ _ => rfl
  have F7 := fun_mk (st := sLawCorner) l7 c7 k7
  have m7 := PySem.W.mg_of X G a7
  have b7 := F7.binds (ps := ["_law_script", "_law_wide_here"]) fun _ _ _ _ _ _ => len_2 fun _ _ => rfl
  have F8 := fun_mk (st := sLawRows) l8 c8 k8
  have m8 := PySem.W.mg_of X G a8
  have b8 := F8.binds (ps := ["_law_script", "_law_wide_here"]) fun _ _ _ _ _ _ => len_2 fun _ _ => rfl
  have F9 := fun_mk (st := sLawWithSum) l9 c9 k9
  have m9 := PySem.W.mg_of X G a9
  have b9 := F9.binds (ps := ["_law_row", "_law_some"]) fun _ _ _ _ _ _ => len_2 fun _ _ => rfl
  have F10 := fun_mk (st := sWithWeights) l10 c10 k10
  have m10 := PySem.W.mg_of X G a10
  have b10 := F10.binds (ps := ["rows"]) fun _ _ _ _ _ _ => len_1 fun _ => rfl
  have F11 := fun_mk (st := sNumberOfHead) l11 c11 k11
  have m11 := PySem.W.mg_of X G a11
  have b11 := F11.binds (ps := ["lines", "first", "column"]) fun _ _ _ _ _ _ => len_3 fun _ _ _ => rfl
  have F12 := fun_mk (st := sMovedAhead) l12 c12 k12
  have m12 := PySem.W.mg_of X G a12
  have b12 := F12.binds (ps := ["lines", "first", "number"]) fun _ _ _ _ _ _ => len_3 fun _ _ _ => rfl
  have F13 := fun_mk (st := sClearedLine) l13 c13 k13
  have m13 := PySem.W.mg_of X G a13
  have b13 := F13.binds (ps := ["line", "head", "column", "divisor"]) fun _ _ _ _ _ _ => len_4 fun _ _ _ _ => rfl
  have F14 := fun_mk (st := sCleared) l14 c14 k14
  have m14 := PySem.W.mg_of X G a14
  have b14 := F14.binds (ps := ["rows", "unknowns"]) fun _ _ _ _ _ _ => len_2 fun _ _ => rfl
  have F15 := fun_mk (st := sCommonDivisor) l15 c15 k15
  have m15 := PySem.W.mg_of X G a15
  have b15 := F15.binds (ps := ["one", "other"]) fun _ _ _ _ _ _ => len_2 fun _ _ => rfl
  have F16 := fun_mk (st := sFraction) l16 c16 k16
  have m16 := PySem.W.mg_of X G a16
  have b16 := F16.binds (ps := ["top", "bottom"]) fun _ _ _ _ _ _ => len_2 fun _ _ => rfl
  have F17 := fun_mk (st := sQuotients) l17 c17 k17
  have m17 := PySem.W.mg_of X G a17
  have b17 := F17.binds (ps := ["lines", "columns", "unknowns", "source"]) fun _ _ _ _ _ _ => len_4 fun _ _ _ _ => rfl
  have F18 := fun_mk (st := sAnswerOf) l18 c18 k18
  have m18 := PySem.W.mg_of X G a18
  have b18 := F18.binds (ps := ["rows"]) fun _ _ _ _ _ _ => len_1 fun _ => rfl
  have F19 := fun_mk (st := sLawTold) l19 c19 k19
  have m19 := PySem.W.mg_of X G a19
  have b19 := F19.binds (ps := ["_law_found", "_law_due"]) fun _ _ _ _ _ _ => len_2 fun _ _ => rfl
  have F20 := fun_mk (st := sLaw) l20 c20 k20
  have m20 := PySem.W.mg_of X G a20
  have n_len := PySem.W.mg_none_of X G z_len
  have n_abs := PySem.W.mg_none_of X G z_abs
  have n_isinstance := PySem.W.mg_none_of X G z_isinstance
  have n_int := PySem.W.mg_none_of X G z_int
  have n_bool := PySem.W.mg_none_of X G z_bool
  have n_str := PySem.W.mg_none_of X G z_str
  have n_tuple := PySem.W.mg_none_of X G z_tuple
  have n_list := PySem.W.mg_none_of X G z_list
  have n_range := PySem.W.mg_none_of X G z_range
  have n_enumerate := PySem.W.mg_none_of X G z_enumerate
  have n_any := PySem.W.mg_none_of X G z_any
  have n_all := PySem.W.mg_none_of X G z_all
  have n_sum := PySem.W.mg_none_of X G z_sum
  have n_zip := PySem.W.mg_none_of X G z_zip
  have n_max := PySem.W.mg_none_of X G z_max
  have n_min := PySem.W.mg_none_of X G z_min
  have E : Ev K mg CNoNumber := { n_len := n_len, n_abs := n_abs, n_isinstance := n_isinstance, n_int := n_int, n_bool := n_bool, n_str := n_str, n_tuple := n_tuple, n_list := n_list, n_range := n_range, n_enumerate := n_enumerate, n_any := n_any, n_all := n_all, n_sum := n_sum, n_zip := n_zip, n_max := n_max, n_min := n_min, ib := kit_int_bool ks_int_bool, kis := kit_int_str ks_int_str, kts := kit_tuple_str ks_tuple_str, kti := kit_tuple_int ks_tuple_int, kls := kit_list_str ks_list_str, kli := kit_list_int ks_list_int, ktl := kit_tuple_list ks_tuple_list, klt := kit_list_tuple ks_list_tuple, mNoNumber := mENoNumber, eNoNumber := ENoNumber }
  refine ⟨PySem.W.fnOf "law" "law" (defArgs sLaw) (defBody sLaw) (defScope sLaw) .none kV20 dc20 pm20 an20 cd20 ct20, fun s v => .of_eq rfl, fun base _ _ => ?_⟩
  have c_LawWide : CalD l.prog w K mg base 1 "_law_wide" ["_law_cell_here"] TWide _ _ := ⟨ok_LawWide F1 E , b1, m1, k1⟩
  have c_LawAt : CalD l.prog w K mg base 1 "_law_at" ["_law_script", "_law_k"] TAt _ _ := ⟨ok_LawAt F2 E , b2, m2, k2⟩
  have c_LawCell : CalD l.prog w K mg base 2 "_law_cell" ["_law_script", "_law_at_here", "_law_k", "_law_wide_here"] TCell _ _ := ⟨ok_LawCell F3 E c_LawAt, b3, m3, k3⟩
  have c_LawLowest : CalD l.prog w K mg base 1 "_law_lowest" ["_law_top", "_law_bottom"] TLow _ _ := ⟨ok_LawLowest F4 E , b4, m4, k4⟩
  have c_LawNumbers : CalD l.prog w K mg base 3 "_law_numbers" ["_law_script", "_law_wide_here"] TNums _ _ := ⟨ok_LawNumbers F5 E c_LawAt c_LawCell c_LawLowest, b5, m5, k5⟩
  have c_LawOrder : CalD l.prog w K mg base 1 "_law_order" ["_law_cell_here", "_law_many"] TOrder _ _ := ⟨ok_LawOrder F6 E , b6, m6, k6⟩
  have c_LawCorner : CalD l.prog w K mg base 3 "_law_corner" ["_law_script", "_law_wide_here"] TCorner _ _ := ⟨ok_LawCorner F7 E c_LawOrder c_LawAt c_LawCell, b7, m7, k7⟩
  have c_LawRows : CalD l.prog w K mg base 4 "_law_rows" ["_law_script", "_law_wide_here"] TRows _ _ := ⟨ok_LawRows F8 E c_LawCorner c_LawAt c_LawOrder, b8, m8, k8⟩
  have c_LawWithSum : CalD l.prog w K mg base 1 "_law_with_sum" ["_law_row", "_law_some"] TSum _ _ := ⟨ok_LawWithSum F9 E , b9, m9, k9⟩
  have c_WithWeights : CalD l.prog w K mg base 1 "with_weights" ["rows"] TWith _ _ := ⟨ok_WithWeights F10 E , b10, m10, k10⟩
  have c_NumberOfHead : CalD l.prog w K mg base 1 "number_of_head" ["lines", "first", "column"] TNoh _ _ := ⟨ok_NumberOfHead F11 E , b11, m11, k11⟩
  have c_MovedAhead : CalD l.prog w K mg base 1 "moved_ahead" ["lines", "first", "number"] TMoved _ _ := ⟨ok_MovedAhead F12 E , b12, m12, k12⟩
  have c_ClearedLine : CalD l.prog w K mg base 1 "cleared_line" ["line", "head", "column", "divisor"] TClear _ _ := ⟨ok_ClearedLine F13 E , b13, m13, k13⟩
  have c_Cleared : CalD l.prog w K mg base 2 "cleared" ["rows", "unknowns"] TCleared _ _ := ⟨ok_Cleared F14 E c_WithWeights c_NumberOfHead c_MovedAhead c_ClearedLine, b14, m14, k14⟩
  have c_CommonDivisor : CalD l.prog w K mg base 1 "common_divisor" ["one", "other"] TGcd _ _ := ⟨ok_CommonDivisor F15 E , b15, m15, k15⟩
  have c_Fraction : CalD l.prog w K mg base 2 "fraction" ["top", "bottom"] (TFrac CNoNumber) _ _ := ⟨ok_Fraction F16 E c_CommonDivisor, b16, m16, k16⟩
  have c_Quotients : CalD l.prog w K mg base 3 "quotients" ["lines", "columns", "unknowns", "source"] TQuot _ _ := ⟨ok_Quotients F17 E c_Fraction, b17, m17, k17⟩
  have c_AnswerOf : CalD l.prog w K mg base 4 "answer_of" ["rows"] TAnswer _ _ := ⟨ok_AnswerOf F18 E c_Cleared c_Quotients, b18, m18, k18⟩
  have c_LawTold : CalD l.prog w K mg base 1 "_law_told" ["_law_found", "_law_due"] TTold _ _ := ⟨ok_LawTold F19 E , b19, m19, k19⟩
  exact law_of (ok_Law F20 E c_LawWide c_LawAt c_LawNumbers c_LawRows c_LawWithSum c_AnswerOf c_LawTold)
theorem walk {l : PySem.W.OpenLaw} {q : Program} {loose : List Str} {XP : (Str → Option Value) → Heap → Prop} {YP : World → Heap → Prop} {d : DefRec} {K : Params → PySem.W.Frag} (hn : l.most = some 63) (hdf : d.params.defaults = [])
    (hY : ∀ (w : World) (h : Heap), YP w h → (K w.params).In h)
    (F : ∀ (w : World) (mg : Str → Option Value) (fa : Addr) (h : Heap), (K w.params).In h → h.Ns mainGlobals mg → mg d.name = some (.ref fa) →
      ∃ fd : FuncData, (∀ (s : Shared) (u : Value), BindsTo s fd ⟨[u], []⟩ [("_law_script", u)]) ∧ ∀ base : Heap, (K w.params).In base → base.Ns mainGlobals mg → FnOk l.prog w (K w.params) mg base CX0 6 fa fd ["_law_script"] (spLaw (K w.params))) :
    PySem.W.WalkO q loose XP YP l.row.toRowW d [] (fun f vs => PySem.call f vs) :=
  L2.walk_of (n := 63) (k := 6) (x := "_law_script") (CX := fun _ => CX0) (sp := fun w => spLaw (K w.params)) hn (by decide) hdf ⟨rfl, by decide, by decide⟩ hY F (fun _ _ a ns hl _ hS => ⟨a, ns, rfl, hS, hl, fun _ => rfl⟩) fun _ _ _ _ _ z => z
end Pg
open PySem PySem.W PyProof.Rows
set_option maxRecDepth 100000 in
set_option maxHeartbeats 0 in
theorem PySem.Challenge.cw_chanceduel_k11_the_one_answer_holds : PySem.Challenge.rw_chanceduel_k11_the_one_answer.Holds := by
  w_on; o_law; k_head; (case hw => w_witness2)
  k_fill
  refine Pg.walk (l := PySem.Challenge.rw_chanceduel_k11_the_one_answer) rfl rfl (fun w h Y => PySem.W.kIn_of Y) ?F
  case F =>
    intro w mg fa h KX G hmg
    refine' Pg.all_mk KX G hmg ?aENoNumber ?xENoNumber ?ks_int_bool ?ks_int_str ?ks_tuple_str ?ks_tuple_int ?ks_list_str ?ks_list_int ?ks_tuple_list ?ks_list_tuple ?a1 ?l1 ?c1 ?k1 ?a2 ?l2 ?c2 ?k2 ?a3 ?l3 ?c3 ?k3 ?a4 ?l4 ?c4 ?k4 ?a5 ?l5 ?c5 ?k5 ?a6 ?l6 ?c6 ?k6 ?a7 ?l7 ?c7 ?k7 ?a8 ?l8 ?c8 ?k8 ?a9 ?l9 ?c9 ?k9 ?a10 ?l10 ?c10 ?k10 ?a11 ?l11 ?c11 ?k11 ?a12 ?l12 ?c12 ?k12 ?a13 ?l13 ?c13 ?k13 ?a14 ?l14 ?c14 ?k14 ?a15 ?l15 ?c15 ?k15 ?a16 ?l16 ?c16 ?k16 ?a17 ?l17 ?c17 ?k17 ?a18 ?l18 ?c18 ?k18 ?a19 ?l19 ?c19 ?k19 ?a20 ?l20 ?c20 ?k20 ?z_len ?z_abs ?z_isinstance ?z_int ?z_bool ?z_str ?z_tuple ?z_list ?z_range ?z_enumerate ?z_any ?z_all ?z_sum ?z_zip ?z_max ?z_min
    (case aENoNumber => k_is)
    (case xENoNumber => k_exc)
    (case ks_int_bool => k_is)
    (case ks_int_str => k_is)
    (case ks_tuple_str => k_is)
    (case ks_tuple_int => k_is)
    (case ks_list_str => k_is)
    (case ks_list_int => k_is)
    (case ks_tuple_list => k_is)
    (case ks_list_tuple => k_is)
    (case a1 => k_is)
    (case l1 => k_is)
    (case c1 => k_is)
    (case k1 => k_is)
    (case a2 => k_is)
    (case l2 => k_is)
    (case c2 => k_is)
    (case k2 => k_is)
    (case a3 => k_is)
    (case l3 => k_is)
    (case c3 => k_is)
    (case k3 => k_is)
    (case a4 => k_is)
    (case l4 => k_is)
    (case c4 => k_is)
    (case k4 => k_is)
    (case a5 => k_is)
    (case l5 => k_is)
    (case c5 => k_is)
    (case k5 => k_is)
    (case a6 => k_is)
    (case l6 => k_is)
    (case c6 => k_is)
    (case k6 => k_is)
    (case a7 => k_is)
    (case l7 => k_is)
    (case c7 => k_is)
    (case k7 => k_is)
    (case a8 => k_is)
    (case l8 => k_is)
    (case c8 => k_is)
    (case k8 => k_is)
    (case a9 => k_is)
    (case l9 => k_is)
    (case c9 => k_is)
    (case k9 => k_is)
    (case a10 => k_is)
    (case l10 => k_is)
    (case c10 => k_is)
    (case k10 => k_is)
    (case a11 => k_is)
    (case l11 => k_is)
    (case c11 => k_is)
    (case k11 => k_is)
    (case a12 => k_is)
    (case l12 => k_is)
    (case c12 => k_is)
    (case k12 => k_is)
    (case a13 => k_is)
    (case l13 => k_is)
    (case c13 => k_is)
    (case k13 => k_is)
    (case a14 => k_is)
    (case l14 => k_is)
    (case c14 => k_is)
    (case k14 => k_is)
    (case a15 => k_is)
    (case l15 => k_is)
    (case c15 => k_is)
    (case k15 => k_is)
    (case a16 => k_is)
    (case l16 => k_is)
    (case c16 => k_is)
    (case k16 => k_is)
    (case a17 => k_is)
    (case l17 => k_is)
    (case c17 => k_is)
    (case k17 => k_is)
    (case a18 => k_is)
    (case l18 => k_is)
    (case c18 => k_is)
    (case k18 => k_is)
    (case a19 => k_is)
    (case l19 => k_is)
    (case c19 => k_is)
    (case k19 => k_is)
    (case a20 => k_is)
    (case l20 => k_is)
    (case c20 => k_is)
    (case k20 => k_is)
    (case z_len => k_is)
    (case z_abs => k_is)
    (case z_isinstance => k_is)
    (case z_int => k_is)
    (case z_bool => k_is)
    (case z_str => k_is)
    (case z_tuple => k_is)
    (case z_list => k_is)
    (case z_range => k_is)
    (case z_enumerate => k_is)
    (case z_any => k_is)
    (case z_all => k_is)
    (case z_sum => k_is)
    (case z_zip => k_is)
    (case z_max => k_is)
    (case z_min => k_is)


