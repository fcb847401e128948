import PyProof.Rows.All
import Wide.All
import OpenK.AllK
import Wide.FinOn
import Lean
import PyProof.EqAt
import PyProof.EqKinds
import PyProof.TupleCall
import PyProof.NeKinds
import PySem.Challenge.RW_chanceduel_k04_fractions_read
set_option Elab.async false
set_option linter.all false
set_option maxRecDepth 100000
/-! THE HAND LAYER, for ints, bools, texts, own classes, LISTS and tuples (index, slices, in, append, pop ..), calls, loops. Paste it whole ahead of your own text; what your proof does not reach may be deleted. -/
namespace L2
open PySem PySem.Spec PyProof.Rows

/-- a key: an int or a str -/
abbrev Key := Sum Int Str
def keyIs : Key → Value → Bool
  | .inl k, v => Value.isInt k v
  | .inr x, v => Value.isStrOf x v
def keyH (w : World) : Key → Int
  | .inl k => hashInt k
  | .inr x => hashStr w x
theorem keyIs_shape : ∀ {k : Key} {v : Value}, keyIs k v = true → (∃ i t, k = Sum.inl i ∧ v = Value.int i t) ∨ (∃ x t, k = Sum.inr x ∧ v = Value.str x t)
  | .inl i, v, h => by
    obtain ⟨t, e⟩ := Value.isInt_shape (k := i) (v := v) h
    exact .inl ⟨i, t, rfl, e⟩
  | .inr x, v, h => by
    obtain ⟨t, e⟩ := Value.isStrOf_shape (x := x) (v := v) h
    exact .inr ⟨x, t, rfl, e⟩
theorem keyIs_int (i : Int) (t : Tok) : keyIs (.inl i) (.int i t) = true := by simp [keyIs, Value.isInt]
theorem keyIs_str (x : Str) (t : Tok) : keyIs (.inr x) (.str x t) = true := by simp [keyIs, Value.isStrOf]
theorem key_ll (a b : Int) : decide ((Sum.inl a : Key) = Sum.inl b) = (a == b) := by
  by_cases e : a = b
  · subst e; simp
  · have h : ¬ (Sum.inl a : Key) = Sum.inl b := fun q => e (Sum.inl.inj q)
    rw [decide_eq_false h]
    exact (beq_eq_false_iff_ne.mpr e).symm
theorem key_rr (a b : Str) : decide ((Sum.inr a : Key) = Sum.inr b) = decide (a = b) := by
  by_cases e : a = b
  · subst e; simp
  · have h : ¬ (Sum.inr a : Key) = Sum.inr b := fun q => e (Sum.inr.inj q)
    rw [decide_eq_false h, decide_eq_false e]
theorem key_lr (a : Int) (b : Str) : decide ((Sum.inl a : Key) = Sum.inr b) = false := decide_eq_false (fun q => nomatch q)
theorem key_rl (a : Str) (b : Int) : decide ((Sum.inr a : Key) = Sum.inl b) = false := decide_eq_false (fun q => nomatch q)

def mixKind (prog : Program) (w : World) : PySem.KeyKind prog w Key where
  is := keyIs
  hash := keyH w
  inj := fun v a b ha hb => by
    rcases keyIs_shape ha with ⟨i, t, rfl, rfl⟩ | ⟨x, t, rfl, rfl⟩
    · rcases keyIs_shape hb with ⟨j, u, rfl, e⟩ | ⟨y, u, rfl, e⟩
      · injection e with e1 _; rw [e1]
      · exact nomatch e
    · rcases keyIs_shape hb with ⟨j, u, rfl, e⟩ | ⟨y, u, rfl, e⟩
      · exact nomatch e
      · injection e with e1 _; rw [e1]
  byValue := fun k v h => by
    rcases keyIs_shape h with ⟨i, t, rfl, rfl⟩ | ⟨x, t, rfl, rfl⟩ <;> rfl
  pyHash := fun hv h => by
    rcases keyIs_shape hv with ⟨i, t, rfl, rfl⟩ | ⟨x, t, rfl, rfl⟩
    · exact wpAny_pyHash_int h
    · exact wpAny_pyHash_str h
  eqBool := fun hu hv h => by
    rcases keyIs_shape hu with ⟨i, t, rfl, rfl⟩ | ⟨x, t, rfl, rfl⟩
    · rcases keyIs_shape hv with ⟨j, u, rfl, rfl⟩ | ⟨y, u, rfl, rfl⟩
      · rw [key_ll] at h; exact wpAny_eqBool_int h
      · rw [key_lr] at h; exact SeqAt.EqAt.int_str i t y u _ _ _ _ h
    · rcases keyIs_shape hv with ⟨j, u, rfl, rfl⟩ | ⟨y, u, rfl, rfl⟩
      · rw [key_rl] at h; exact SeqAt.EqAt.str_int x t j u _ _ _ _ h
      · rw [key_rr] at h; exact wpAny_eqBool_str h
  «strs» := fun k x t v h => by
    rcases keyIs_shape h with ⟨i, u, rfl, e⟩ | ⟨y, u, rfl, e⟩
    · exact nomatch e
    · injection e with e1 _
      subst e1
      cases v <;> rfl

theorem mixKind_is (prog : Program) (w : World) (k : Key) (v : Value) : (mixKind prog w).is k v = keyIs k v := rfl
theorem mixKind_int (prog : Program) (w : World) (i : Int) (t : Tok) : (mixKind prog w).is (.inl i) (.int i t) = true := keyIs_int i t
theorem mixKind_str (prog : Program) (w : World) (x : Str) (t : Tok) : (mixKind prog w).is (.inr x) (.str x t) = true := keyIs_str x t
end L2

namespace L2
open PySem PySem.Spec PyProof.Rows

/-- a value, without the heap -/
inductive V where
  | non | bl (b : Bool) | int (i : Int) | str (x : Str) | byt (b : Array UInt8) | flt (b : UInt64) | ref (a : Addr) | ty (n : String)
  deriving DecidableEq

def RelV : V → Value → Prop
  | .non, u => u = Value.none
  | .bl b, u => u = Value.bool b
  | .int i, u => ∃ t, u = Value.int i t
  | .str x, u => ∃ t, u = Value.str x t
  | .byt b, u => ∃ t, u = Value.bytes b t
  | .flt b, u => ∃ t, u = Value.float b t
  | .ref a, u => u = Value.ref a
  | .ty n, u => u = Value.type n

abbrev Vals : List V → List Value → Prop := Paired RelV
theorem Vals.length {xs : List V} {us : List Value} (r : Vals xs us) : xs.length = us.length := Paired.length r
theorem Vals.get : ∀ {xs : List V} {us : List Value} {i : Nat} {x : V}, Vals xs us → xs[i]? = some x → ∃ u, us[i]? = some u ∧ RelV x u
  | _, _, _, _, .nil, e => by simp at e
  | _, _, 0, _, .cons r _, e => by simp at e; subst e; exact ⟨_, rfl, r⟩
  | _, _, i + 1, x, .cons _ t, e => by
    obtain ⟨u, h1, h2⟩ := Vals.get (i := i) (x := x) t (by simpa using e)
    exact ⟨u, by simpa using h1, h2⟩
theorem Vals.set {x : V} {u : Value} (r : RelV x u) : ∀ {xs : List V} {us : List Value} (i : Nat), Vals xs us → Vals (xs.set i x) (us.set i u)
  | _, _, _, .nil => .nil
  | _, _, 0, .cons _ t => .cons r t
  | _, _, i + 1, .cons q t => .cons q (Vals.set r i t)
theorem Vals.append : ∀ {xs ys : List V} {us ws : List Value}, Vals xs us → Vals ys ws → Vals (xs ++ ys) (us ++ ws)
  | _, _, _, _, .nil, s => s
  | _, _, _, _, .cons r t, s => .cons r (Vals.append t s)
theorem Vals.take : ∀ {xs : List V} {us : List Value} (n : Nat), Vals xs us → Vals (xs.take n) (us.take n)
  | _, _, 0, _ => .nil
  | _, _, _ + 1, .nil => .nil
  | _, _, n + 1, .cons r t => .cons r (Vals.take n t)
theorem Vals.drop : ∀ {xs : List V} {us : List Value} (n : Nat), Vals xs us → Vals (xs.drop n) (us.drop n)
  | _, _, 0, r => r
  | _, _, _ + 1, .nil => .nil
  | _, _, n + 1, .cons _ t => Vals.drop n t
theorem Vals.none_of : ∀ {xs : List V} {us : List Value} {i : Nat}, Vals xs us → xs[i]? = none → us[i]? = none := fun {xs us i} r e => by
  have h1 := r.length
  have h2 : xs.length ≤ i := List.getElem?_eq_none_iff.mp e
  exact List.getElem?_eq_none_iff.mpr (by omega)

def RelO : Option V → Option Value → Prop
  | some v, some u => RelV v u
  | none, none => True
  | _, _ => False
def KV {κ : Type} : List (κ × V) → List (κ × Value) → Prop := Paired fun (p : κ × V) (q : κ × Value) => p.1 = q.1 ∧ RelV p.2 q.2

/-- a key of a dict (00_mix): an int or a text -/
def kV : Key → V
  | .inl i => .int i
  | .inr x => .str x

/-- what stands at a tracked address -/
inductive HO where
  /-- a list -/
  | lst (xs : List V)
  /-- a tuple (never changes) -/
  | tup (xs : List V)
  /-- a dict whose keys are ints and texts; one whose keys are tuples of ints and texts (the empty one is both) -/
  | dK (kvs : List (Key × V)) | dT (kvs : List (List Key × V))
  /-- a set of ints: its members, its size -/
  | set (S : Int → Bool) (n : Nat)
  /-- an instance of the class at C, its dict at dx, its attributes -/
  | ins (C dx : Addr) (fs : List (Str × V))
  /-- the dict of the instance at x -/
  | own (x : Addr)
  /-- the dict of an exception -/
  | xd (fs : List (Str × V))
  /-- a bound method, f of x -/
  | met (f x : Addr)
  /-- a range object lo, lo + 1, .. below hi -/
  | rng (lo hi : Int)
  /-- a thing that is known to the object (the script; a dict while a loop walks it): read, never written while it is so -/
  | frz (o : Obj) (u : HO)
  /-- a code object's table -/
  | tbl (ps : Array Value)
  /-- any other thing, by what is true of its one object (a def of one's own: SetO a S n := HO.ext fun h => ..) -/
  | ext (φ : Heap → Prop)

abbrev Hp := Addr → Option HO
def upd (H : Hp) (a : Addr) (o : HO) : Hp := fun b => if b = a then some o else H b
theorem upd_same {H : Hp} {a : Addr} {o : HO} : upd H a o a = some o := by unfold upd; rw [if_pos rfl]
theorem upd_ne {H : Hp} {a b : Addr} {o : HO} (h : b ≠ a) : upd H a o b = H b := by unfold upd; rw [if_neg h]
theorem upd_upd {H : Hp} {a : Addr} {o u : HO} : upd (upd H a o) a u = upd H a u := by
  funext b; unfold upd; split <;> rfl
/-- two objects of different content stand apart -/
theorem ne_of {H : Hp} {a b : Addr} {o u : HO} (h : H a = some o) (h' : H b = some u) (d : o ≠ u) : a ≠ b := by
  intro e; subst e; rw [h] at h'; exact d (Option.some.inj h')
theorem ne_of_none {H : Hp} {a b : Addr} {o : HO} (h : H a = some o) (h' : H b = none) : a ≠ b := by
  intro e; subst e; rw [h] at h'; cases h'

section
variable (P : Program) (w : World)
def ObjOk (H : Hp) (h : Heap) (a : Addr) : HO → Prop
  | .lst xs => xs.length ≤ sizeLine ∧ ∃ (its : List Value) (n : Nat), Vals xs its ∧ h.get? a = some { cls := .type "list", data := .seq its.toArray n }
  | .tup xs => xs.length ≤ sizeLine ∧ ∃ its : List Value, Vals xs its ∧ IsTup h a its.toArray
  | .dK kvs => kvs.length ≤ sizeLine ∧ (a == sysModules) = false ∧ ∃ vs, KV kvs vs ∧ h.DictOf (mixKind P w) a vs
  | .dT kvs => kvs.length ≤ sizeLine ∧ (a == sysModules) = false ∧ ∃ xs : List (List Key × Addr × Value),
      Paired (fun (p : List Key × V) (q : List Key × Addr × Value) => p.1 = q.1 ∧ H q.2.1 = some (.tup (p.1.map kV)) ∧ RelV p.2 q.2.2) kvs xs ∧
      ∃ o es ep, h.get? a = some o ∧ o.ExactDict ∧ o.data = .dict es ep ∧ es.toList = xs.map (entryOfKey (tupleKind (mixKind P w))) ∧ (xs.map (·.1)).Nodup
  | .set S n => h.SetOf (intKind P w) a S n
  | .ins C dx fs => H dx = some (.own a) ∧ fs.length ≤ 1000 ∧ dx ≠ a ∧ h.get? a = some (PySem.W.instObj C dx) ∧
      ∃ mA, h.Ns1 dx mA ∧ (∀ f, RelO (fs.lookup f) (mA f)) ∧ PySem.Within mA (fs.map (·.1))
  | .own _ => ∃ o, h.get? a = some o
  | .xd fs => ∃ mA, h.Ns1 a mA ∧ ∀ f, RelO (fs.lookup f) (mA f)
  | .rng lo hi => ∃ t u v, h.get? a = some { cls := .type "range", data := .fields #[.int lo t, .int hi u, .int 1 v] }
  | .frz o u => h.get? a = some o ∧ ObjOk H h a u
  | .tbl ps => h.get? a = some { cls := .none, data := .fields ps }
  | .met f x => h.get? a = some (PySem.W.methodObj (.ref f) (.ref x))
  | .ext φ => φ h ∧ (∃ o, h.get? a = some o) ∧ ∀ h1 h2 : Heap, φ h1 → (∀ o, h1.get? a = some o → h2.get? a = some o) → φ h2
/-- the abstract heap is held -/
def HOk (H : Hp) (h : Heap) : Prop := ∀ a o, H a = some o → ObjOk P w H h a o
end

section
variable {P : Program} {w : World} {H H' : Hp} {h h' : Heap} {a : Addr} {o : HO}
theorem ObjOk.lt (x : ObjOk P w H h a o) : a < h.objs.size := by
  cases o with
  | lst xs => obtain ⟨_, _, _, _, e⟩ := x; exact Heap.lt_size e
  | tup xs => obtain ⟨_, _, _, p⟩ := x; exact p.lt
  | dK kvs => obtain ⟨_, _, _, _, o, _, _, e, _⟩ := x; exact Heap.lt_size e
  | dT kvs => obtain ⟨_, _, _, _, o, _, _, e, _⟩ := x; exact Heap.lt_size e
  | set S n => obtain ⟨o, _, _, _, e, _⟩ := x; exact Heap.lt_size e
  | ins C dx fs => obtain ⟨_, _, _, e, _⟩ := x; exact Heap.lt_size e
  | own y => obtain ⟨_, e⟩ := x; exact Heap.lt_size e
  | xd fs => obtain ⟨_, ⟨_, _, _, e, _⟩, _⟩ := x; exact Heap.lt_size e
  | rng lo hi => obtain ⟨_, _, _, e⟩ := x; exact Heap.lt_size e
  | frz ob u => obtain ⟨e, _⟩ := x; exact Heap.lt_size e
  | tbl ps => exact Heap.lt_size (show h.get? a = some _ from x)
  | met f y => exact Heap.lt_size (show h.get? a = some _ from x)
  | ext φ => obtain ⟨_, ⟨_, e⟩, _⟩ := x; exact Heap.lt_size e
theorem Paired.mapP {α β : Type} {F G : α → β → Prop} : ∀ {l₁ : List α} {l₂ : List β}, Paired F l₁ l₂ → (∀ a b, F a b → G a b) → Paired G l₁ l₂
  | _, _, .nil, _ => .nil
  | _, _, .cons r t, f => .cons (f _ _ r) (Paired.mapP t f)
theorem Paired.imp' {α β : Type} {F G : α → β → Prop} (f : ∀ a b, F a b → G a b) {l₁ : List α} {l₂ : List β} (r : Paired F l₁ l₂) : Paired G l₁ l₂ := Paired.mapP r f
/-- what an object's description leans on: its own object, its own dict, the tuples -/
theorem ObjOk.stay (x : ObjOk P w H h a o) (k : ∀ b u, (b = a ∨ H b = some (.own a)) → h.get? b = some u → h'.get? b = some u)
    (ho : ∀ b, H b = some (.own a) → H' b = some (.own a)) (ht : ∀ b xs, H b = some (.tup xs) → H' b = some (.tup xs)) : ObjOk P w H' h' a o := by
  induction o with
  | lst xs => obtain ⟨z, its, n, r, e⟩ := x; exact ⟨z, its, n, r, k _ _ (.inl rfl) e⟩
  | tup xs => obtain ⟨z, its, r, ob, e, c⟩ := x; exact ⟨z, its, r, ob, k _ _ (.inl rfl) e, c⟩
  | dK kvs => obtain ⟨z, y, vs, r, ob, es, ep, e, c⟩ := x; exact ⟨z, y, vs, r, ob, es, ep, k _ _ (.inl rfl) e, c⟩
  | dT kvs =>
    obtain ⟨z, y, xs, r, ob, es, ep, e, c⟩ := x
    exact ⟨z, y, xs, Paired.mapP r fun p q z => ⟨z.1, ht _ _ z.2.1, z.2.2⟩, ob, es, ep, k _ _ (.inl rfl) e, c⟩
  | set S n => obtain ⟨ob, es, ep, t, e, c⟩ := x; exact ⟨ob, es, ep, t, k _ _ (.inl rfl) e, c⟩
  | ins C dx fs =>
    obtain ⟨d, z, ne, e, mA, ⟨od, es, ep, e2, c⟩, r⟩ := x
    exact ⟨ho _ d, z, ne, k _ _ (.inl rfl) e, mA, ⟨od, es, ep, k _ _ (.inr d) e2, c⟩, r⟩
  | own y => obtain ⟨ob, e⟩ := x; exact ⟨ob, k _ _ (.inl rfl) e⟩
  | xd fs => obtain ⟨mA, ⟨od, es, ep, e, c⟩, r⟩ := x; exact ⟨mA, ⟨od, es, ep, k _ _ (.inl rfl) e, c⟩, r⟩
  | rng lo hi => obtain ⟨t, u, v, e⟩ := x; exact ⟨t, u, v, k _ _ (.inl rfl) e⟩
  | frz ob u ih => obtain ⟨e, q⟩ := x; exact ⟨k _ _ (.inl rfl) e, ih q⟩
  | tbl ps =>
    have e : h.get? a = some { cls := .none, data := .fields ps } := x
    show h'.get? a = some { cls := .none, data := .fields ps }
    exact k a _ (.inl rfl) e
  | met f y =>
    have e : h.get? a = some (PySem.W.methodObj (.ref f) (.ref y)) := x
    show h'.get? a = some (PySem.W.methodObj (.ref f) (.ref y))
    exact k a _ (.inl rfl) e
  | ext φ => obtain ⟨p, ⟨o, e⟩, st⟩ := x; exact ⟨st _ _ p fun o q => k _ _ (.inl rfl) q, ⟨o, k _ _ (.inl rfl) e⟩, st⟩
theorem HOk.lt (x : HOk P w H h) (e : H a = some o) : a < h.objs.size := (x a o e).lt
theorem HOk.fresh (x : HOk P w H h) (e : h.objs.size ≤ a) : H a = none := by
  cases q : H a with
  | none => rfl
  | some u => exact absurd (Nat.lt_of_lt_of_le (x.lt q) e) (Nat.lt_irrefl _)
/-- every object of the heap is kept -/
theorem HOk.kept (x : HOk P w H h) (k : ∀ b u, h.get? b = some u → h'.get? b = some u) : HOk P w H h' := fun a o e =>
  (x a o e).stay (fun b u _ q => k b u q) (fun _ q => q) fun _ _ q => q
/-- a new object is laid and tracked -/
theorem HOk.laid (x : HOk P w H h) (k : ∀ b u, h.get? b = some u → h'.get? b = some u) (hp : h.objs.size ≤ a) (new : ObjOk P w (upd H a o) h' a o) : HOk P w (upd H a o) h' := fun b u e => by
  have hn := x.fresh hp
  by_cases hb : b = a
  · subst hb; rw [upd_same] at e; cases e; exact new
  · rw [upd_ne hb] at e
    exact (x b u e).stay (fun c v _ q => k c v q) (fun c q => by rw [upd_ne (ne_of_none q hn)]; exact q) fun c xs q => by rw [upd_ne (ne_of_none q hn)]; exact q
end

/-- what may be read as u: it is u, or a known u -/
def Rd (H : Hp) (a : Addr) (u : HO) : Prop := H a = some u ∨ ∃ o, H a = some (.frz o u)
theorem Rd.of {H : Hp} {a : Addr} {u : HO} (h : H a = some u) : Rd H a u := .inl h
theorem Rd.ok {P : Program} {w : World} {H : Hp} {h : Heap} {a : Addr} {u : HO} (r : Rd H a u) (x : HOk P w H h) : ObjOk P w H h a u := by
  rcases r with r | ⟨o, r⟩
  · exact x a u r
  · obtain ⟨_, q⟩ := x a _ r
    exact q
/-- what may be written -/
def Mut : Option HO → Prop
  | some (.lst _) => True
  | some (.dK _) => True
  | some (.dT _) => True
  | some (.set _ _) => True
  | some (.ins _ _ _) => True
  | some (.ext _) => True
  | _ => False
section
variable {P : Program} {w : World} {H : Hp} {h h' : Heap} {x e : Addr} {o' : HO}
/-- the object at e is changed: x itself, or the dict of the instance x -/
theorem HOk.write (ok : HOk P w H h) (mu : Mut (H x)) (he : e = x ∨ H e = some (.own x)) (k : ∀ b u, b ≠ e → h.get? b = some u → h'.get? b = some u) (heo : ∃ u, h'.get? e = some u)
    (new : ObjOk P w (upd H x o') h' x o') : HOk P w (upd H x o') h' := fun b u q => by
  have nown : ∀ c y, H c = some (.own y) → c ≠ x := fun c y r z => by subst z; rw [r] at mu; exact mu
  have ntup : ∀ c xs, H c = some (.tup xs) → c ≠ x := fun c xs r z => by subst z; rw [r] at mu; exact mu
  by_cases hb : b = x
  · subst hb; rw [upd_same] at q; cases q; exact new
  · rw [upd_ne hb] at q
    by_cases hbe : b = e
    · have q' : H b = some (.own x) := by
        rcases he with z | z
        · exact absurd (hbe.trans z) hb
        · rw [hbe]; exact z
      rw [q] at q'; cases q'
      obtain ⟨v, hv⟩ := heo
      exact ⟨v, by rw [hbe]; exact hv⟩
    · refine (ok b u q).stay (fun c v hc r => k c v ?_ r) (fun c r => by rw [upd_ne (nown c b r)]; exact r) fun c xs r => by rw [upd_ne (ntup c xs r)]; exact r
      rcases hc with rfl | hc
      · exact hbe
      · rintro rfl
        rcases he with z | z
        · exact nown c b hc z
        · rw [hc] at z; cases z; exact hb rfl
end

/-! ### kept unless tracked; of the frames at fs (the callers') the slots may change (an exception that passes writes there); of the records at ex (iterators) nothing is said -/
structure Un (fs ex : List Addr) (H H' : Hp) (h h' : Heap) : Prop where
  keep : ∀ b o, h.get? b = some o → H b = none → b ∉ fs → b ∉ ex → h'.get? b = some o
  slot : ∀ b o, h.get? b = some o → H b = none → b ∈ fs → b ∉ ex → ∃ sl, h'.get? b = some { o with slots := sl }
  free : ∀ b o, h.get? b = some o → H b = none → b ∉ ex → H' b = none
  there : ∀ b o, h.get? b = some o → b ∉ ex → ∃ o', h'.get? b = some o'
  tups : ∀ b xs, H b = some (.tup xs) → H' b = some (.tup xs)
  frzs : ∀ b o u, H b = some (.frz o u) → H' b = some (.frz o u)
  tbls : ∀ b ps, H b = some (.tbl ps) → ∃ more, H' b = some (.tbl (ps ++ more))
section
variable {fs fs' ex ex' : List Addr} {H H1 H2 : Hp} {h h1 h2 h' : Heap} {a x e : Addr} {o : HO}
theorem Un.any (u : Un fs ex H H1 h h1) {b : Addr} {ob : Obj} (q : h.get? b = some ob) (n : H b = none) (hx : b ∉ ex) : ∃ sl, h1.get? b = some { ob with slots := sl } := by
  by_cases hb : b ∈ fs
  · exact u.slot b ob q n hb hx
  · exact ⟨ob.slots, u.keep b ob q n hb hx⟩
theorem Un.trans (a : Un fs ex H H1 h h1) (b : Un fs ex H1 H2 h1 h2) : Un fs ex H H2 h h2 where
  keep := fun c ob q n hc hx => b.keep c ob (a.keep c ob q n hc hx) (a.free c ob q n hx) hc hx
  slot := fun c ob q n hc hx => by
    obtain ⟨sl, e1⟩ := a.slot c ob q n hc hx
    obtain ⟨sl', e2⟩ := b.slot c _ e1 (a.free c ob q n hx) hc hx
    exact ⟨sl', e2⟩
  free := fun c ob q n hx => by
    obtain ⟨o', e1⟩ := a.there c ob q hx
    exact b.free c o' e1 (a.free c ob q n hx) hx
  there := fun c ob q hx => by
    obtain ⟨o', e1⟩ := a.there c ob q hx
    exact b.there c o' e1 hx
  tups := fun c xs q => b.tups c xs (a.tups c xs q)
  frzs := fun c ob xs q => b.frzs c ob xs (a.frzs c ob xs q)
  tbls := fun c ps q => by
    obtain ⟨m1, e1⟩ := a.tbls c ps q
    obtain ⟨m2, e2⟩ := b.tbls c _ e1
    exact ⟨m1 ++ m2, by rw [e2, Array.append_assoc]⟩
theorem Un.kept (k : ∀ b u, h.get? b = some u → h'.get? b = some u) : Un fs ex H H h h' :=
  ⟨fun b ob q _ _ _ => k b ob q, fun b ob q _ _ _ => ⟨ob.slots, k b ob q⟩, fun _ _ _ n _ => n, fun b ob q _ => ⟨ob, k b ob q⟩, fun _ _ q => q, fun _ _ _ q => q, fun _ ps q => ⟨#[], by rw [q]; simp⟩⟩
theorem Un.refl : Un fs ex H H h h := Un.kept fun _ _ q => q
theorem Un.laid (k : ∀ b u, h.get? b = some u → h'.get? b = some u) (hp : h.objs.size ≤ a) (hn : H a = none) : Un fs ex H (upd H a o) h h' where
  keep := fun b u q _ _ _ => k b u q
  slot := fun b u q _ _ _ => ⟨u.slots, k b u q⟩
  free := fun b u q n _ => by rw [upd_ne (Nat.ne_of_lt (Nat.lt_of_lt_of_le (Heap.lt_size q) hp))]; exact n
  there := fun b u q _ => ⟨u, k b u q⟩
  tups := fun b xs q => by rw [upd_ne (ne_of_none q hn)]; exact q
  frzs := fun b u xs q => by rw [upd_ne (ne_of_none q hn)]; exact q
  tbls := fun b ps q => ⟨#[], by rw [upd_ne (ne_of_none q hn), q]; simp⟩
theorem Un.write (mu : Mut (H x)) (he : e = x ∨ H e = some (.own x)) (k : ∀ b u, b ≠ e → h.get? b = some u → h'.get? b = some u) (heo : ∃ u, h'.get? e = some u) : Un fs ex H (upd H x o) h h' := by
  have hx : ∀ b, H b = none → b ≠ x := fun b n z => by subst z; rw [n] at mu; exact mu
  have hb : ∀ b, H b = none → b ≠ e := fun b n z => by
    subst z
    rcases he with r | r
    · exact hx b n r
    · rw [n] at r; cases r
  have hm : ∀ b u, H b = some u → ¬ Mut (some u) → b ≠ x := fun b u q nm z => by subst z; rw [q] at mu; exact nm mu
  refine ⟨fun b u q n _ _ => k b u (hb b n) q, fun b u q n _ _ => ⟨u.slots, k b u (hb b n) q⟩, fun b u q n _ => by rw [upd_ne (hx b n)]; exact n, fun b u q _ => ?_,
    fun b xs q => by rw [upd_ne (hm b _ q fun z => z)]; exact q, fun b u xs q => by rw [upd_ne (hm b _ q fun z => z)]; exact q, fun b ps q => ⟨#[], by rw [upd_ne (hm b _ q fun z => z), q]; simp⟩⟩
  by_cases hbe : b = e
  · subst hbe; exact heo
  · exact ⟨u, k b u hbe q⟩
theorem Un.mono (u : Un fs ex H H1 h h1) (hs : ∀ b ∈ fs, b ∈ fs') (hx : ∀ b ∈ ex, b ∈ ex') : Un fs' ex' H H1 h h1 :=
  ⟨fun b ob q n hb he => u.keep b ob q n (fun z => hb (hs b z)) fun z => he (hx b z), fun _ _ q n _ he => u.any q n fun z => he (hx _ z), fun b ob q n he => u.free b ob q n fun z => he (hx b z), fun b ob q he => u.there b ob q fun z => he (hx b z), u.tups, u.frzs, u.tbls⟩
end

/-! ### the heap without what is tracked -/
def trk (h : Heap) (H : Hp) : List Addr := (List.range h.objs.size).filter fun a => (H a).isSome
def hidT (h : Heap) (H : Hp) : Heap := PySem.W.hideAll h (trk h H)
theorem hidT_size (h : Heap) (H : Hp) : (hidT h H).objs.size = h.objs.size := PySem.W.hideAll_size _ _
theorem hidT_get {h : Heap} {H : Hp} {b : Addr} {o : Obj} (e : h.get? b = some o) (n : H b = none) : (hidT h H).get? b = some o :=
  PySem.W.hideAll_get _ e fun hm => by
    have q : (H b).isSome = true := (List.mem_filter.mp hm).2
    rw [n] at q; simp at q
theorem of_hidT {h : Heap} {H : Hp} {b : Addr} {o : Obj} (e : (hidT h H).get? b = some o) : h.get? b = some o ∧ H b = none := by
  have e' : h.get? b = some o := PySem.W.of_hideAll (trk h H) e
  refine ⟨e', ?_⟩
  cases q : H b with
  | none => rfl
  | some x =>
    have hm : b ∈ trk h H := List.mem_filter.mpr ⟨List.mem_range.mpr (Heap.lt_size e'), by simp [q]⟩
    have z : (hidT h H).get? b = none := PySem.W.hideAll_none (trk h H) hm
    rw [z] at e; cases e

/-! ### OpenK's ledger, filled with every new object but one -/
def allNews (g h : Heap) (L : Addr) : List (Addr × Obj) := (List.range h.objs.size).filterMap fun a => if a = L ∨ (g.get? a).isSome = true then none else (h.get? a).map fun o => (a, o)
theorem mem_allNews {g h : Heap} {L a : Addr} {o : Obj} (h1 : a ≠ L) (h2 : g.get? a = none) (h3 : h.get? a = some o) : (a, o) ∈ allNews g h L :=
  List.mem_filterMap.mpr ⟨a, List.mem_range.mpr (Heap.lt_size h3), by simp [h1, h2, h3]⟩
theorem of_mem_allNews {g h : Heap} {L : Addr} {p : Addr × Obj} (hp : p ∈ allNews g h L) : p.1 ≠ L ∧ g.get? p.1 = none ∧ h.get? p.1 = some p.2 := by
  obtain ⟨b, _, e⟩ := List.mem_filterMap.mp hp
  split at e
  · cases e
  · rename_i hn
    cases q : h.get? b with
    | none => rw [q] at e; simp at e
    | some u =>
      rw [q] at e
      simp only [Option.map_some, Option.some.injEq] at e
      subst e
      refine ⟨fun z => hn (.inl z), ?_, q⟩
      show g.get? b = none
      cases r : g.get? b with
      | none => rfl
      | some v => exact (hn (.inr (by simp [r]))).elim
def rest (g h : Heap) (L d : Addr) : List (Addr × Obj) := (allNews g h L).filter fun p => decide (p.1 ≠ d)
theorem rest_ne {g h : Heap} {L d : Addr} : ∀ p ∈ rest g h L d, p.1 ≠ d := fun p hp => of_decide_eq_true (List.mem_filter.mp hp).2
theorem mem_rest {g h : Heap} {L d a : Addr} {o : Obj} (h1 : a ≠ L) (h2 : g.get? a = none) (h3 : h.get? a = some o) (h4 : a ≠ d) : (a, o) ∈ rest g h L d :=
  List.mem_filter.mpr ⟨mem_allNews h1 h2 h3, decide_eq_true h4⟩
theorem news_all {g h : Heap} {L : Addr} : News g L h (allNews g h L) := fun p hp => let ⟨a, b, c⟩ := of_mem_allNews hp; ⟨c, a, b⟩
theorem news_at {g h : Heap} {L d : Addr} {o : Obj} (h1 : d ≠ L) (h2 : g.get? d = none) (h3 : h.get? d = some o) : News g L h ((d, o) :: rest g h L d) := fun p hp => by
  rcases List.mem_cons.mp hp with rfl | hp
  · exact ⟨h3, h1, h2⟩
  · exact news_all p (List.mem_filter.mp hp).1
/-- behind a rule that changed d alone: all else but the frame is kept -/
theorem kept_of_news {g h h' : Heap} {L d : Addr} {m : Str → Option Value} (k : ∀ b o, g.get? b = some o → h.get? b = some o) (F : Fr g L h' m) (N : News g L h' (rest g h L d)) :
    ∀ b o, b ≠ L → b ≠ d → h.get? b = some o → h'.get? b = some o := fun b o h1 h2 e => by
  cases q : g.get? b with
  | some u =>
    have := k b u q
    rw [e] at this; cases this
    exact F.keep b _ q
  | none => exact (N (b, o) (mem_rest h1 q e h2)).1
end L2

namespace L2
open PySem PySem.Spec PyProof.Rows

/-- the module's facts, over the base: the heap at the law's entry without what is tracked there -/
structure Mod (K : PySem.W.Frag) (mg : Str → Option Value) (base : Heap) : Prop where
  kin : K.In base
  glob : base.Ns mainGlobals mg
  blt : ∃ mb, base.Ns builtinsNs mb ∧ ∀ x : Str, x ≠ "__name__" → mb x = bootBuiltins x
  nolimit : base.NoLimit

/-- the context: a def's body (or a comprehension's block) running. base: fixed through the whole law; s₀, H₀: the entry; outer: the frames whose slots others may change (a def's callers); stack: all frames that run;
   ex: iterators that were made ahead of the entry and are walked here (a comprehension's); fn: the names whose cells were made at the entry (a def: all; a comprehension's block: its own); calm: not within an except suite; pn: pins that every state bears; xe: what is wanted of an exception that leaves the code -/
structure Cx where
  prog : Program
  w : World
  K : PySem.W.Frag
  mg : Str → Option Value
  base : Heap
  A : Around
  N : List Str
  s₀ : Shared
  H₀ : Hp
  env : Env
  outer : List Env
  stack : List Env
  ex : List Addr
  fn : Str → Bool
  calm : Bool
  pn : List (Addr × Obj)
  xe : Value → Shared → Prop
/-- the callers' frames -/
def frs (l : List Env) : List Addr := l.filterMap (·.frame)
abbrev Cx.fs (X : Cx) : List Addr := frs X.outer

def Vis (sc : Scope) (x : Str) : Prop := sc.names.lookup x = some .local ∨ sc.names.lookup x = some .cell ∨ sc.names.lookup x = some .free
def Loc (sc : Scope) (x : Str) : Prop := sc.names.lookup x = some .local ∨ sc.names.lookup x = some .cell
def Look (env : Env) (h : Heap) (m : Str → Option Value) (x : Str) (u : Value) : Prop :=
  (env.kindOf x = some .local ∧ m x = some u) ∨ ((env.kindOf x = some .cell ∨ env.kindOf x = some .free) ∧ ∃ c, env.cells.lookup x = some c ∧ h.IsCell c (some u))

structure Cx.Ok (X : Cx) : Prop where
  mod : Mod X.K X.mg X.base
  kind : X.env.scope.kind = .function
  glob : X.env.globals = mainGlobals
  blt : X.env.builtins = builtinsNs
  above : X.s₀.heap.objs.size ≤ X.env.locals
  inj : ∀ x y c, X.env.cells.lookup x = some c → X.env.cells.lookup y = some c → x = y
  has : ∀ x, (X.env.kindOf x = some .cell ∨ X.env.kindOf x = some .free) → ∃ c, X.env.cells.lookup x = some c
  cab : ∀ x c, X.fn x = true → X.env.cells.lookup x = some c → X.s₀.heap.objs.size ≤ c
  hd : X.calm = true → X.A.handled = none
  frames : X.A.frames = some X.stack
  stk : X.stack = X.outer ∨ (X.stack = X.env :: X.outer ∧ X.env.frame = some X.env.locals)
  exf : ∀ b ∈ X.ex, b ≠ X.env.locals ∧ ∀ x c, X.env.cells.lookup x = some c → c ≠ b
  bs : ∀ b o, X.base.get? b = some o → X.s₀.heap.get? b = some o ∧ X.H₀ b = none
  bsz : X.base.objs.size ≤ X.s₀.heap.objs.size
  noex : ∀ b o, X.base.get? b = some o → b ∉ X.ex
  exfs : ∀ b ∈ X.ex, b ∉ X.fs
  funs : X.s₀.heap.FunFrames X.base X.outer
  frf : ∀ b ∈ X.fs, X.H₀ b = none

structure Inv (X : Cx) (pins : List (Addr × Obj)) (σ : List (Option V)) (H : Hp) (s : Shared) : Prop where
  ok : X.Ok
  os : s.os = X.s₀.os
  bare : AllBare s.gens
  base : Un X.fs X.ex X.H₀ H X.s₀.heap s.heap
  loc : ∃ m, s.heap.Ns X.env.locals m ∧ ∀ (i : Nat) (x : Str) (v : V), X.N[i]? = some x → σ[i]? = some (some v) → Vis X.env.scope x → ∃ u, RelV v u ∧ Look X.env s.heap m x u
  cell : ∀ x c, X.env.cells.lookup x = some c → ∃ v, s.heap.IsCell c v
  free : H X.env.locals = none
  freeC : ∀ x c, X.env.cells.lookup x = some c → H c = none
  pin : ∀ p ∈ X.pn ++ pins, s.heap.get? p.1 = some p.2 ∧ H p.1 = none ∧ p.1 ≠ X.env.locals ∧ p.1 ∉ X.fs ∧ ∀ v, p.2.data ≠ .cell v
  hok : HOk X.prog X.w H s.heap
  len : σ.length = X.N.length

section
variable {X : Cx} {pins : List (Addr × Obj)} {σ : List (Option V)} {H H' : Hp} {s : Shared} {h' : Heap}

theorem Cx.Ok.nofr (ok : X.Ok) {b : Addr} {o : Obj} (e : X.base.get? b = some o) : b ∉ X.fs := fun hb => by
  have := (ok.funs.mem hb).1
  rw [e] at this; cases this
theorem Inv.bs (I : Inv X pins σ H s) : ∀ b o, X.base.get? b = some o → s.heap.get? b = some o ∧ H b = none := fun b o e =>
  ⟨I.base.keep b o (I.ok.bs b o e).1 (I.ok.bs b o e).2 (I.ok.nofr e) (I.ok.noex b o e), I.base.free b o (I.ok.bs b o e).1 (I.ok.bs b o e).2 (I.ok.noex b o e)⟩
theorem Inv.bk (I : Inv X pins σ H s) : ∀ b o, X.base.get? b = some o → s.heap.get? b = some o := fun b o e => (I.bs b o e).1
theorem Inv.mod (I : Inv X pins σ H s) : Mod X.K X.mg X.base := I.ok.mod
theorem Inv.kIn (I : Inv X pins σ H s) : X.K.In s.heap := I.ok.mod.kin.keeps I.bk
theorem Inv.nolimit (I : Inv X pins σ H s) : s.heap.NoLimit := I.ok.mod.nolimit.keeps I.bk
/-- the frame over the base: for OpenK's rules (K.In X.base is I.mod.kin) -/
theorem Inv.fr (I : Inv X pins σ H s) : ∃ m, Fr X.base X.env.locals s.heap m :=
  let ⟨m, hn, _⟩ := I.loc
  ⟨m, hn, I.bk, Nat.le_trans I.ok.bsz I.ok.above⟩
theorem Inv.lt (I : Inv X pins σ H s) : X.env.locals < s.heap.objs.size := let ⟨_, hn, _⟩ := I.loc; hn.lt
theorem Inv.sz (I : Inv X pins σ H s) : X.s₀.heap.objs.size ≤ s.heap.objs.size := Nat.le_trans I.ok.above (Nat.le_of_lt I.lt)
theorem Inv.nofs (I : Inv X pins σ H s) {a : Addr} (h : s.heap.objs.size ≤ a) : a ∉ X.fs := fun hb => by
  obtain ⟨_, o, ho, _⟩ := I.ok.funs.mem hb
  exact absurd (Nat.lt_of_lt_of_le (Heap.lt_size ho) (Nat.le_trans I.sz h)) (Nat.lt_irrefl _)
theorem Inv.cne (I : Inv X pins σ H s) : ∀ x c, X.env.cells.lookup x = some c → c ≠ X.env.locals := fun x c e z => by
  obtain ⟨v, o, ho, hd⟩ := I.cell x c e
  obtain ⟨m, ⟨o', es, ep, ho', hd', _⟩, _⟩ := I.loc
  rw [z, ho'] at ho; cases ho; rw [hd'] at hd; cases hd
theorem Inv.funs (I : Inv X pins σ H s) : s.heap.FunFrames X.base X.outer := by
  have all : ∀ (l : List Env), (∀ b ∈ frs l, b ∈ X.fs) → X.s₀.heap.FunFrames X.base l → s.heap.FunFrames X.base l := by
    intro l
    induction l with
    | nil => intro _ _; trivial
    | cons env r ih =>
      intro hs hl
      obtain ⟨hk, ⟨L, o, hf, hn, ho, hd⟩, hr⟩ := hl
      have hL : L ∈ X.fs := hs L (by unfold frs; rw [List.filterMap_cons, hf]; exact List.mem_cons_self)
      obtain ⟨sl, e⟩ := I.base.slot L o ho (I.ok.frf L hL) hL fun z => I.ok.exfs L z hL
      exact ⟨hk, ⟨L, _, hf, hn, e, hd⟩, ih (fun b hb => hs b (by unfold frs; rw [List.filterMap_cons, hf]; exact List.mem_cons_of_mem _ hb)) hr⟩
  exact all X.outer (fun _ hb => hb) I.ok.funs

/-- the frames that run, for a call -/
theorem Inv.stack (I : Inv X pins σ H s) : s.heap.FunFrames X.base X.stack := by
  rcases I.ok.stk with e | ⟨e, hf⟩
  · rw [e]; exact I.funs
  · rw [e]
    obtain ⟨m, hn, _⟩ := I.loc
    refine .cons (by rw [I.ok.kind]; decide) hf hn ?_ I.funs
    exact Heap.get?_none_of_le (Nat.le_trans I.ok.bsz I.ok.above)
theorem Inv.stkSub (I : Inv X pins σ H s) : ∀ b ∈ frs X.stack, b ∈ X.env.locals :: X.fs := fun b hb => by
  rcases I.ok.stk with e | ⟨e, hf⟩
  · rw [e] at hb; exact List.mem_cons_of_mem _ hb
  · rw [e] at hb
    unfold frs at hb
    rw [List.filterMap_cons, hf] at hb
    exact hb
theorem Inv.stkFree (I : Inv X pins σ H s) : ∀ b ∈ frs X.stack, H b = none := fun b hb => by
  rcases List.mem_cons.mp (I.stkSub b hb) with e | hb
  · rw [e]; exact I.free
  · obtain ⟨_, o, ho, _⟩ := I.ok.funs.mem hb
    exact I.base.free b o ho (I.ok.frf b hb) fun z => I.ok.exfs b z hb

/-- THE STEP: the untracked objects but the frame and the records at ch are kept (the callers' frames up to slots), the frame's map is kept, the new abstract heap is held -/
theorem Inv.step {g' : Array GenState} {t' : Nat} {d' : Drawn} {ch : List Addr} (I : Inv X pins σ H s)
    (hch : ∀ b ∈ ch, (b ∈ X.ex ∨ X.s₀.heap.objs.size ≤ b) ∧ b ≠ X.env.locals ∧ (∀ x c, X.env.cells.lookup x = some c → c ≠ b) ∧ ∀ p ∈ X.pn ++ pins, p.1 ≠ b)
    (keep : ∀ b o, b ≠ X.env.locals → b ∉ X.fs → b ∉ ch → s.heap.get? b = some o → H b = none → h'.get? b = some o)
    (slot : ∀ b o, b ≠ X.env.locals → b ∈ X.fs → b ∉ ch → s.heap.get? b = some o → H b = none → ∃ sl, h'.get? b = some { o with slots := sl }) (free : ∀ b o, b ∉ ch → s.heap.get? b = some o → H b = none → H' b = none)
    (there : ∀ b o, b ∉ ch → s.heap.get? b = some o → ∃ o', h'.get? b = some o')
    (tups : ∀ b xs, H b = some (.tup xs) → H' b = some (.tup xs)) (frzs : ∀ b o u, H b = some (.frz o u) → H' b = some (.frz o u)) (tbls : ∀ b ps, H b = some (.tbl ps) → ∃ more, H' b = some (.tbl (ps ++ more)))
    (ns : ∀ m, s.heap.Ns X.env.locals m → h'.Ns X.env.locals m) (hok : HOk X.prog X.w H' h') (hg : AllBare g') :
    Inv X pins σ H' { s with heap := h', gens := g', drawn := d', toks := t' } := by
  have neL : ∀ b o, X.s₀.heap.get? b = some o → b ≠ X.env.locals := fun b o e => Nat.ne_of_lt (Nat.lt_of_lt_of_le (Heap.lt_size e) I.ok.above)
  have neC : ∀ b o, X.s₀.heap.get? b = some o → b ∉ X.ex → b ∉ ch := fun b o e hx hb => by
    rcases (hch b hb).1 with z | z
    · exact hx z
    · exact absurd (Nat.lt_of_lt_of_le (Heap.lt_size e) z) (Nat.lt_irrefl _)
  have cellK : ∀ x c, X.env.cells.lookup x = some c → ∀ v, s.heap.IsCell c v → h'.IsCell c v := fun x c e v ⟨o, ho, hd⟩ => by
    have nch : c ∉ ch := fun z => (hch c z).2.2.1 x c e rfl
    by_cases hc : c ∈ X.fs
    · obtain ⟨sl, q⟩ := slot c o (I.cne x c e) hc nch ho (I.freeC x c e)
      exact ⟨_, q, hd⟩
    · exact ⟨o, keep c o (I.cne x c e) hc nch ho (I.freeC x c e), hd⟩
  refine ⟨I.ok, I.os, hg, ⟨fun b o e n hb hx => ?_, fun b o e n hb hx => ?_, fun b o e n hx => ?_, fun b o e hx => ?_, fun b xs e => tups b xs (I.base.tups b xs e), fun b o xs e => frzs b o xs (I.base.frzs b o xs e), fun b ps e => ?_⟩, ?_, fun x c e => ?_, ?_, fun x c e => ?_, fun p hp => ?_, hok, I.len⟩
  · exact keep b o (neL b o e) hb (neC b o e hx) (I.base.keep b o e n hb hx) (I.base.free b o e n hx)
  · obtain ⟨sl, e1⟩ := I.base.slot b o e n hb hx
    obtain ⟨sl', e2⟩ := slot b _ (neL b o e) hb (neC b o e hx) e1 (I.base.free b o e n hx)
    exact ⟨sl', e2⟩
  · obtain ⟨o', e1⟩ := I.base.there b o e hx
    exact free b o' (neC b o e hx) e1 (I.base.free b o e n hx)
  · obtain ⟨o', e1⟩ := I.base.there b o e hx
    exact there b o' (neC b o e hx) e1
  · obtain ⟨m1, e1⟩ := I.base.tbls b ps e
    obtain ⟨m2, e2⟩ := tbls b _ e1
    exact ⟨m1 ++ m2, by rw [e2, Array.append_assoc]⟩
  · obtain ⟨m, hn, hl⟩ := I.loc
    refine ⟨m, ns m hn, fun i x v e1 e2 e3 => ?_⟩
    obtain ⟨u, r, l⟩ := hl i x v e1 e2 e3
    refine ⟨u, r, ?_⟩
    rcases l with l | ⟨k, c, e, z⟩
    · exact .inl l
    · exact .inr ⟨k, c, e, cellK x c e _ z⟩
  · obtain ⟨v, z⟩ := I.cell x c e
    exact ⟨v, cellK x c e v z⟩
  · obtain ⟨m, ⟨o, _, _, ho, _⟩, _⟩ := I.loc
    exact free _ o (fun z => (hch _ z).2.1 rfl) ho I.free
  · obtain ⟨v, o, ho, hd⟩ := I.cell x c e
    exact free c o (fun z => (hch c z).2.2.1 x c e rfl) ho (I.freeC x c e)
  · obtain ⟨e, n, ne, nf, d⟩ := I.pin p hp
    have nch : p.1 ∉ ch := fun z => (hch p.1 z).2.2.2 p hp rfl
    exact ⟨keep p.1 p.2 ne nf nch e n, free p.1 p.2 nch e n, ne, nf, d⟩
/-- .. where the frame's own object is kept too -/
theorem Inv.un {t' : Nat} (I : Inv X pins σ H s) (u : Un X.fs [] H H' s.heap h') (hok : HOk X.prog X.w H' h') : Inv X pins σ H' { s with heap := h', toks := t' } := by
  obtain ⟨m, ⟨o, es, ep, ho, r⟩, _⟩ := id I.loc
  obtain ⟨sl, hL⟩ := u.any ho I.free (by simp)
  exact I.step (g' := s.gens) (d' := s.drawn) (ch := []) (fun _ z => nomatch z) (fun b o _ hb _ e n => u.keep b o e n hb (by simp)) (fun b o _ hb _ e n => u.slot b o e n hb (by simp)) (fun b o _ e n => u.free b o e n (by simp)) (fun b o _ e => u.there b o e (by simp)) u.tups u.frzs u.tbls (fun m' hm => by
    obtain ⟨o', es', ep', ho', r'⟩ := hm
    rw [ho] at ho'; cases ho'
    exact ⟨_, es', ep', hL, r'⟩) hok I.bare
/-- behind a call (or a comprehension's block): the slots of this frame may have changed too, the records at ch may have turned -/
theorem Inv.call {g' : Array GenState} {t' : Nat} {d' : Drawn} {ch : List Addr} (I : Inv X pins σ H s) (u : Un (frs X.stack) ch H H' s.heap h') (hok : HOk X.prog X.w H' h') (hg : AllBare g')
    (hch : ∀ b ∈ ch, (b ∈ X.ex ∨ X.s₀.heap.objs.size ≤ b) ∧ b ≠ X.env.locals ∧ (∀ x c, X.env.cells.lookup x = some c → c ≠ b) ∧ ∀ p ∈ X.pn ++ pins, p.1 ≠ b) :
    Inv X pins σ H' { s with heap := h', gens := g', drawn := d', toks := t' } := by
  obtain ⟨m, ⟨o, es, ep, ho, r⟩, _⟩ := id I.loc
  obtain ⟨sl, hL⟩ := u.any ho I.free fun z => (hch _ z).2.1 rfl
  exact I.step (ch := ch) hch (fun b o hL hb hc e n => u.keep b o e n (fun z => (List.mem_cons.mp (I.stkSub b z)).elim hL hb) hc) (fun b o _ _ hc e n => u.any e n hc) (fun b o hc e n => u.free b o e n hc) (fun b o hc e => u.there b o e hc) u.tups u.frzs u.tbls (fun m' hm => by
    obtain ⟨o', es', ep', ho', r'⟩ := hm
    rw [ho] at ho'; cases ho'
    exact ⟨_, es', ep', hL, r'⟩) hok hg
/-- an untracked record of ours (an iterator) has turned -/
theorem Inv.turned {t' : Nat} {it : Addr} (I : Inv X pins σ H s) (k : ∀ b o, b ≠ it → s.heap.get? b = some o → h'.get? b = some o) (hn : H it = none) (hL : it ≠ X.env.locals)
    (h1 : it ∈ X.ex ∨ X.s₀.heap.objs.size ≤ it) (h2 : ∀ x c, X.env.cells.lookup x = some c → c ≠ it) (h3 : ∀ p ∈ X.pn ++ pins, p.1 ≠ it) : Inv X pins σ H { s with heap := h', toks := t' } := by
  have nit : ∀ b u, H b = some u → b ≠ it := fun b u e z => by rw [z, hn] at e; cases e
  refine I.step (g' := s.gens) (d' := s.drawn) (ch := [it]) (fun b hb => ?_) (fun b o _ _ hc e _ => k b o (fun z => hc (by simp [z])) e) (fun b o _ _ hc e _ => ⟨o.slots, k b o (fun z => hc (by simp [z])) e⟩) (fun _ _ _ _ n => n)
    (fun b o hc e => ⟨o, k b o (fun z => hc (by simp [z])) e⟩) (fun _ _ e => e) (fun _ _ _ e => e) (fun b ps e => ⟨#[], by rw [e]; simp⟩) (fun m hm => ?_) (fun b u e => ?_) I.bare
  · have e : b = it := by simpa using hb
    subst e
    exact ⟨h1, hL, h2, h3⟩
  · obtain ⟨o, es, ep, ho, r⟩ := hm
    exact ⟨o, es, ep, k _ o (Ne.symm hL) ho, r⟩
  · refine (I.hok b u e).stay (fun c v hc q => k c v ?_ q) (fun _ q => q) fun _ _ q => q
    rcases hc with z | z
    · rw [z]; exact nit b u e
    · exact nit c _ z
theorem Inv.tok (I : Inv X pins σ H s) (t : Nat) : Inv X pins σ H { s with toks := t } := I.un (h' := s.heap) (t' := t) Un.refl I.hok
/-- all objects kept -/
theorem Inv.kept {t' : Nat} (I : Inv X pins σ H s) (k : ∀ b u, s.heap.get? b = some u → h'.get? b = some u) : Inv X pins σ H { s with heap := h', toks := t' } := I.un (Un.kept k) (I.hok.kept k)
/-- a new object laid and tracked -/
theorem Inv.laid {a : Addr} {o : HO} {t' : Nat} (I : Inv X pins σ H s) (k : ∀ b u, s.heap.get? b = some u → h'.get? b = some u) (hp : s.heap.objs.size ≤ a) (new : ObjOk X.prog X.w (upd H a o) h' a o) :
    Inv X pins σ (upd H a o) { s with heap := h', toks := t' } := I.un (Un.laid k hp (I.hok.fresh hp)) (I.hok.laid k hp new)
/-- an object written -/
theorem Inv.write {x e : Addr} {o : HO} {t' : Nat} (I : Inv X pins σ H s) (mu : Mut (H x)) (he : e = x ∨ H e = some (.own x)) (k : ∀ b u, b ≠ e → s.heap.get? b = some u → h'.get? b = some u) (heo : ∃ u, h'.get? e = some u)
    (new : ObjOk X.prog X.w (upd H x o) h' x o) : Inv X pins σ (upd H x o) { s with heap := h', toks := t' } := I.un (Un.write mu he k heo) (I.hok.write mu he k heo new)
/-- forgetting slots, pins -/
theorem Inv.weak {σ' : List (Option V)} (I : Inv X pins σ H s) (hl : σ'.length = σ.length) (w : ∀ (i : Nat) v, σ'[i]? = some (some v) → σ[i]? = some (some v)) : Inv X pins σ' H s :=
  ⟨I.ok, I.os, I.bare, I.base, let ⟨m, hn, hl'⟩ := I.loc; ⟨m, hn, fun i x v e1 e2 e3 => hl' i x v e1 (w i v e2) e3⟩, I.cell, I.free, I.freeC, I.pin, I.hok, hl.trans I.len⟩
theorem Inv.pins_of {pins' : List (Addr × Obj)} (I : Inv X pins σ H s) (h : ∀ p ∈ pins', s.heap.get? p.1 = some p.2 ∧ H p.1 = none ∧ p.1 ≠ X.env.locals ∧ p.1 ∉ X.fs ∧ ∀ v, p.2.data ≠ .cell v) : Inv X pins' σ H s :=
  ⟨I.ok, I.os, I.bare, I.base, I.loc, I.cell, I.free, I.freeC, fun p hp => (List.mem_append.mp hp).elim (fun z => I.pin p (List.mem_append_left _ z)) (h p), I.hok, I.len⟩

theorem nodup_ix {N : List Str} (hN : N.Nodup) {i j : Nat} {x : Str} (a : N[i]? = some x) (b : N[j]? = some x) : i = j := by
  obtain ⟨h1, e1⟩ := List.getElem?_eq_some_iff.mp a
  obtain ⟨h2, e2⟩ := List.getElem?_eq_some_iff.mp b
  exact (List.getElem_inj hN).mp (e1.trans e2.symm)

/-- a name is stored; what changed -/
theorem store_ok2 {M : Model} {A : Around} {E : Value → Shared → Prop} {i : Nat} {x : Str} {v : V} {u : Value} {Q : Unit → Shared → Prop} (I : Inv X pins σ H s) (hN : X.N.Nodup) (hi : X.N[i]? = some x) (hx : Loc X.env.scope x) (r : RelV v u)
    (h : ∀ s', Inv X pins (σ.set i (some v)) H s' → (∃ a, Heap.SameBut a s.heap s'.heap ∧ (a = X.env.locals ∨ X.env.cells.lookup x = some a)) → Q () s') (hf : X.fn x = true ∨ X.env.scope.names.lookup x = some .local := by first | exact .inl rfl | exact .inr rfl | assumption) : wpAny M A (storeName X.env x u) Q E s := by
  obtain ⟨m, hn, hl⟩ := id I.loc
  have hcls : (X.env.scope.kind == .class || (X.env.scope.kind == .module && X.env.locals != X.env.globals)) = false := by rw [I.ok.kind]; rfl
  have hiσ : i < σ.length := by rw [I.len]; exact (List.getElem?_eq_some_iff.mp hi).1
  have cne := I.cne
  have tracked : ∀ {a : Addr} {h' : Heap}, (∃ o, s.heap.get? a = some o ∧ H a = none) → Heap.SameBut a s.heap h' → HOk X.prog X.w H h' := fun {a h'} ha hs b ob e => by
    obtain ⟨_, _, hfree⟩ := ha
    refine (I.hok b ob e).stay (fun c w' hc q => (hs.2 c ?_).trans q) (fun _ q => q) fun _ _ q => q
    rintro rfl
    rcases hc with rfl | hc
    · rw [hfree] at e; cases e
    · rw [hfree] at hc; cases hc
  rcases hx with hk | hk
  · refine wpAny_storeName_local hk hn (fun h' hn' hs => ?_) hcls
    obtain ⟨oL, _, _, hoL, _⟩ := id hn
    refine h _ ⟨I.ok, I.os, I.bare, ⟨fun b o e n hb hx => ?_, fun b o e n hb hx => ?_, I.base.free, fun b o e hx => ?_, I.base.tups, I.base.frzs, I.base.tbls⟩, ⟨_, hn', fun j y v' e1 e2 e3 => ?_⟩, fun y c e => ?_, I.free, I.freeC, fun p hp => ?_, tracked ⟨oL, hoL, I.free⟩ hs, by simpa using I.len⟩ ⟨_, hs, .inl rfl⟩
    · exact (hs.2 b (Nat.ne_of_lt (Nat.lt_of_lt_of_le (Heap.lt_size e) I.ok.above))).trans (I.base.keep b o e n hb hx)
    · obtain ⟨sl, e1⟩ := I.base.slot b o e n hb hx
      exact ⟨sl, (hs.2 b (Nat.ne_of_lt (Nat.lt_of_lt_of_le (Heap.lt_size e) I.ok.above))).trans e1⟩
    · obtain ⟨o', e1⟩ := I.base.there b o e hx
      exact ⟨o', (hs.2 b (Nat.ne_of_lt (Nat.lt_of_lt_of_le (Heap.lt_size e) I.ok.above))).trans e1⟩
    · by_cases hj : j = i
      · subst hj
        rw [hi] at e1; cases e1
        rw [List.getElem?_set_self hiσ] at e2
        cases e2
        exact ⟨u, r, .inl ⟨hk, by simp⟩⟩
      · rw [List.getElem?_set_ne (Ne.symm hj)] at e2
        obtain ⟨u', r', q⟩ := hl j y v' e1 e2 e3
        refine ⟨u', r', ?_⟩
        rcases q with ⟨k, e⟩ | ⟨k, c, e, z⟩
        · refine .inl ⟨k, ?_⟩
          have : y ≠ x := fun e => hj (nodup_ix hN e1 (e ▸ hi))
          simp [this, e]
        · exact .inr ⟨k, c, e, z.sameBut hs (cne y c e)⟩
    · obtain ⟨w', z⟩ := I.cell y c e
      exact ⟨w', z.sameBut hs (cne y c e)⟩
    · obtain ⟨e, n, ne, nf, d⟩ := I.pin p hp
      exact ⟨(hs.2 p.1 ne).trans e, n, ne, nf, d⟩
  · have hfn : X.fn x = true := by
      rcases hf with z | z
      · exact z
      · rw [z] at hk; cases hk
    obtain ⟨c, hc⟩ := I.ok.has x (.inl hk)
    obtain ⟨w', z⟩ := I.cell x c hc
    refine wpAny_storeName_cell I.ok.kind hk hc z (fun h' hc' hs => ?_)
    obtain ⟨oc, hoc, hocd⟩ := id z
    refine h { s with heap := h' } ⟨I.ok, I.os, I.bare, ⟨fun b o e n hb hx => ?_, fun b o e n hb hx => ?_, I.base.free, fun b o e hx => ?_, I.base.tups, I.base.frzs, I.base.tbls⟩, ⟨m, hn.sameBut hs (Ne.symm (cne x c hc)), fun j y v' e1 e2 e3 => ?_⟩, fun y c' e => ?_, I.free, I.freeC, fun p hp => ?_, tracked ⟨oc, hoc, I.freeC x c hc⟩ hs, by simpa using I.len⟩ ⟨c, hs, .inr hc⟩
    · exact (hs.2 b (Nat.ne_of_lt (Nat.lt_of_lt_of_le (Heap.lt_size e) (I.ok.cab x c hfn hc)))).trans (I.base.keep b o e n hb hx)
    · obtain ⟨sl, e1⟩ := I.base.slot b o e n hb hx
      exact ⟨sl, (hs.2 b (Nat.ne_of_lt (Nat.lt_of_lt_of_le (Heap.lt_size e) (I.ok.cab x c hfn hc)))).trans e1⟩
    · obtain ⟨o', e1⟩ := I.base.there b o e hx
      exact ⟨o', (hs.2 b (Nat.ne_of_lt (Nat.lt_of_lt_of_le (Heap.lt_size e) (I.ok.cab x c hfn hc)))).trans e1⟩
    · by_cases hj : j = i
      · subst hj
        rw [hi] at e1; cases e1
        rw [List.getElem?_set_self hiσ] at e2
        cases e2
        exact ⟨u, r, .inr ⟨.inl hk, c, hc, hc'⟩⟩
      · rw [List.getElem?_set_ne (Ne.symm hj)] at e2
        obtain ⟨u', r', q⟩ := hl j y v' e1 e2 e3
        refine ⟨u', r', ?_⟩
        rcases q with q | ⟨k, c', e, z'⟩
        · exact .inl q
        · refine .inr ⟨k, c', e, z'.sameBut hs ?_⟩
          rintro rfl
          exact hj (nodup_ix hN e1 (I.ok.inj _ _ _ e hc ▸ hi))
    · by_cases hcc : c' = c
      · subst hcc; exact ⟨_, hc'⟩
      · obtain ⟨w2, z2⟩ := I.cell y c' e
        exact ⟨w2, z2.sameBut hs hcc⟩
    · obtain ⟨e, n, ne, nf, d⟩ := I.pin p hp
      refine ⟨(hs.2 p.1 ?_).trans e, n, ne, nf, d⟩
      intro q
      rw [q, hoc] at e
      have q' : oc = p.2 := Option.some.inj e
      exact d w' (by rw [← q']; exact hocd)
theorem store_ok {M : Model} {A : Around} {E : Value → Shared → Prop} {i : Nat} {x : Str} {v : V} {u : Value} {Q : Unit → Shared → Prop} (I : Inv X pins σ H s) (hN : X.N.Nodup) (hi : X.N[i]? = some x) (hx : Loc X.env.scope x) (r : RelV v u)
    (h : ∀ s', Inv X pins (σ.set i (some v)) H s' → Q () s') (hf : X.fn x = true ∨ X.env.scope.names.lookup x = some .local := by first | exact .inl rfl | exact .inr rfl | assumption) : wpAny M A (storeName X.env x u) Q E s :=
  store_ok2 I hN hi hx r (fun s' I' _ => h s' I') hf
/-- behind a call or a block, the state as it is -/
theorem Inv.call' {s' : Shared} {ch : List Addr} (I : Inv X pins σ H s) (ho : s'.os = s.os) (u : Un (frs X.stack) ch H H' s.heap s'.heap) (hok : HOk X.prog X.w H' s'.heap) (hg : AllBare s'.gens)
    (hch : ∀ b ∈ ch, (b ∈ X.ex ∨ X.s₀.heap.objs.size ≤ b) ∧ b ≠ X.env.locals ∧ (∀ x c, X.env.cells.lookup x = some c → c ≠ b) ∧ ∀ p ∈ X.pn ++ pins, p.1 ≠ b) : Inv X pins σ H' s' := by
  obtain ⟨h', g', d', t', o'⟩ := s'
  have e : o' = s.os := ho
  subst e
  exact I.call (g' := g') (t' := t') (d' := d') u hok hg hch
end

/-! ### the judgements -/
/-- an exception: its class, its own dict's address (where it has one), the abstract heap behind it -/
abbrev XK := Value → Option Addr → Hp → Prop
abbrev St := List (Option V)
abbrev VK := V → Hp → Prop
/-- an expression's reading; a test's; an argument list's -/
abbrev TE := St → Hp → VK → Prop
abbrev TT := St → Hp → (Bool → Hp → Prop) → Prop
abbrev TA := St → Hp → (List V → Hp → Prop) → Prop
/-- what is wanted behind a statement -/
structure Ends where
  nx : St → Hp → Prop
  rt : VK
  bk : St → Hp → Prop := fun _ _ => False
  ct : St → Hp → Prop := fun _ _ => False
abbrev TS := Ends → St → Hp → Prop

def EP (X : Cx) (pins : List (Addr × Obj)) (σ : St) (Q : VK) (u : Value) (s' : Shared) : Prop := ∃ v H', Inv X pins σ H' s' ∧ RelV v u ∧ Q v H'
def TP (X : Cx) (pins : List (Addr × Obj)) (σ : St) (Q : Bool → Hp → Prop) (b : Bool) (s' : Shared) : Prop := ∃ H', Inv X pins σ H' s' ∧ Q b H'
def AP (X : Cx) (pins : List (Addr × Obj)) (σ : St) (Q : List V → Hp → Prop) (us : List Value) (s' : Shared) : Prop := ∃ vs H', Inv X pins σ H' s' ∧ Vals vs us ∧ Q vs H'
def SP (X : Cx) (pins : List (Addr × Obj)) (D : Ends) (f : Flow) (s' : Shared) : Prop :=
  match f with
  | .next => ∃ σ' H', Inv X pins σ' H' s' ∧ D.nx σ' H'
  | .brk => ∃ σ' H', Inv X pins σ' H' s' ∧ D.bk σ' H'
  | .cont => ∃ σ' H', Inv X pins σ' H' s' ∧ D.ct σ' H'
  | .ret u => ∃ v σ' H', Inv X pins σ' H' s' ∧ RelV v u ∧ D.rt v H'

def PE (X : Cx) (e : Expr) (t : TE) : Prop :=
  ∀ (pins : List (Addr × Obj)) (s : Shared) (σ : St) (H : Hp) (Q : VK), Inv X pins σ H s → t σ H Q → wpAny (model X.prog X.w) X.A (eval e X.env) (EP X pins σ Q) X.xe s
def PT (X : Cx) (e : Expr) (t : TT) : Prop :=
  ∀ (pins : List (Addr × Obj)) (s : Shared) (σ : St) (H : Hp) (Q : Bool → Hp → Prop), Inv X pins σ H s → t σ H Q → wpAny (model X.prog X.w) X.A (isTrue e X.env (eval e X.env)) (TP X pins σ Q) X.xe s
/-- a test whatever its 'whole' is (and, or) -/
def PW (X : Cx) (e : Expr) (t : TT) : Prop :=
  ∀ (whole : Sem Value) (pins : List (Addr × Obj)) (s : Shared) (σ : St) (H : Hp) (Q : Bool → Hp → Prop), Inv X pins σ H s → t σ H Q → wpAny (model X.prog X.w) X.A (isTrue e X.env whole) (TP X pins σ Q) X.xe s
theorem PW.pt {X : Cx} {e : Expr} {t : TT} (h : PW X e t) : PT X e t := h _
/-- an argument list (no star), from the left -/
def PA (X : Cx) (es : List Expr) (t : TA) : Prop :=
  ∀ (pos : Pos) (pins : List (Addr × Obj)) (s : Shared) (σ : St) (H : Hp) (Q : List V → Hp → Prop), Inv X pins σ H s → t σ H Q → wpAny (model X.prog X.w) X.A (spliced (backTo pos (starEach es X.env))) (AP X pins σ Q) X.xe s
def PS (X : Cx) (st : Stmt) (t : TS) : Prop :=
  ∀ (pins : List (Addr × Obj)) (s : Shared) (σ : St) (H : Hp) (D : Ends), Inv X pins σ H s → t D σ H → wpAny (model X.prog X.w) X.A (exec st X.env) (SP X pins D) X.xe s
def PSs (X : Cx) (st : List Stmt) (t : TS) : Prop :=
  ∀ (pins : List (Addr × Obj)) (s : Shared) (σ : St) (H : Hp) (D : Ends), Inv X pins σ H s → t D σ H → wpAny (model X.prog X.w) X.A (execs st X.env) (SP X pins D) X.xe s
/-- weaken the end -/
theorem thn {α : Type} {t : Sem α} {Q Q' : α → Shared → Prop} {M : Model} {A : Around} {E : Value → Shared → Prop} {s : Shared} (h : wpAny M A t Q E s) (hQ : ∀ a s, Q a s → Q' a s) : wpAny M A t Q' E s := wpAny_mono h hQ fun _ _ x => x
end L2

namespace L2
open PySem PySem.Spec PyProof.Rows
section
variable {X : Cx}

/-- two expressions in a row -/
theorem bin {a b : Expr} {ta tb : TE} (ha : PE X a ta) (hb : PE X b tb) {pins : List (Addr × Obj)} {s : Shared} {σ : St} {H : Hp} {R : V → V → Hp → Prop} (I : Inv X pins σ H s) (h : ta σ H fun x H1 => tb σ H1 fun y H2 => R x y H2)
    {α : Type} {Q : α → Shared → Prop} {f : Value → Value → Sem α}
    (hf : ∀ v u s2 x y H2, Inv X pins σ H2 s2 → RelV x v → RelV y u → R x y H2 → wpAny (model X.prog X.w) X.A (f v u) Q X.xe s2) :
    wpAny (model X.prog X.w) X.A (eval a X.env) (fun v s₁ => wpAny (model X.prog X.w) X.A (eval b X.env) (fun u s₂ => wpAny (model X.prog X.w) X.A (f v u) Q X.xe s₂) X.xe s₁) X.xe s := by
  refine thn (ha pins s σ H _ I h) fun v s1 ⟨x, H1, I1, r1, q1⟩ => ?_
  refine thn (hb pins s1 σ H1 _ I1 q1) fun u s2 ⟨y, H2, I2, r2, q2⟩ => ?_
  exact hf v u s2 x y H2 I2 r1 r2 q2

/-! ### names and constants -/
def tVar (i : Nat) : TE := fun σ H Q => ∃ v, σ[i]? = some (some v) ∧ Q v H
def tC (v : V) : TE := fun _ H Q => Q v H
theorem pe_var {i : Nat} {x : Str} {pos : Pos} (hN : X.N[i]? = some x) (hv : Vis X.env.scope x) (hd : (x == ("__debug__" : Str)) = false := by decide) (hcd : (x == ("__classdict__" : Str)) = false := by decide) : PE X (.Name x pos) (tVar i) := by
  intro pins s σ H Q I h
  obtain ⟨v, e, h⟩ := h
  obtain ⟨m, hn, hl⟩ := I.loc
  obtain ⟨u, r, l⟩ := hl i x v hN e hv
  have fin : EP X pins σ Q u s := ⟨v, H, I, r, h⟩
  rcases l with ⟨hk, hm⟩ | ⟨hk, c, hc, hcell⟩
  · exact wpAny_Name (wpAny_loadName_local I.ok.kind hk hn hm fin) hd
  · rcases hk with hk | hk
    · exact wpAny_Name (wpAny_loadName_cell I.ok.kind hk hc hcell fin) hd
    · exact wpAny_Name (wpAny_loadName_free I.ok.kind hk hc hcell fin hcd) hd
theorem pe_int {i j pos} : PE X (.Constant (.int i) j pos) (tC (.int i)) := fun _ _ _ H _ I h => wpAny_Constant_int ⟨.int i, H, I.tok _, ⟨_, rfl⟩, h⟩
theorem pe_bl {b j pos} : PE X (.Constant (.bool b) j pos) (tC (.bl b)) := fun _ _ _ H _ I h => Constant_bool ⟨.bl b, H, I, rfl, h⟩
theorem pe_non {j pos} : PE X (.Constant .none j pos) (tC .non) := fun _ _ _ H _ I h => Constant_none ⟨.non, H, I, rfl, h⟩
theorem pe_str {x j pos} : PE X (.Constant (.str x) j pos) (tC (.str x)) := fun _ _ _ H _ I h => Calls.Constant_str ⟨.str x, H, I.tok _, ⟨_, rfl⟩, h⟩

/-- a global name of the def -/
def Gl (X : Cx) (x : Str) : Prop := X.env.kindOf x = some .globalImplicit
theorem ld_glob {E : Value → Shared → Prop} {pins : List (Addr × Obj)} {s : Shared} {σ : St} {H : Hp} {x : Str} {u : Value} {pos : Pos} {Q : Value → Shared → Prop} (I : Inv X pins σ H s) (hg : Gl X x) (hm : X.mg x = some u) (h : Q u s)
    (hd : (x == ("__debug__" : Str)) = false := by decide) : wpAny (model X.prog X.w) X.A (eval (.Name x pos) X.env) Q E s :=
  Calls.Name_function_global I.ok.kind hg (Calls.loadGlobal_global (by rw [I.ok.glob]; exact I.mod.glob.keeps I.bk) hm h) hd
theorem ld_blt {E : Value → Shared → Prop} {pins : List (Addr × Obj)} {s : Shared} {σ : St} {H : Hp} {x : Str} {u : Value} {pos : Pos} {Q : Value → Shared → Prop} (I : Inv X pins σ H s) (hg : Gl X x) (hm : X.mg x = none) (hv : bootBuiltins x = some u) (h : Q u s)
    (hn : x ≠ "__name__" := by decide) (hd : (x == ("__debug__" : Str)) = false := by decide) : wpAny (model X.prog X.w) X.A (eval (.Name x pos) X.env) Q E s := by
  obtain ⟨mb, h1, h2⟩ := I.mod.blt
  exact Calls.Name_function_global I.ok.kind hg (Calls.loadGlobal_builtin (by rw [I.ok.glob]; exact I.mod.glob.keeps I.bk) hm (by rw [I.ok.blt]; exact h1.keeps I.bk) ((h2 x hn).trans hv) h) hd
/-- a module's constant, a class, a function, as a value -/
theorem pe_glob {x : Str} {v : V} {u : Value} {pos : Pos} (hg : Gl X x) (hm : X.mg x = some u) (r : RelV v u) (hd : (x == ("__debug__" : Str)) = false := by decide) : PE X (.Name x pos) (tC v) :=
  fun _ _ _ H _ I h => ld_glob I hg hm ⟨v, H, I, r, h⟩ hd
theorem pe_bltn {x : Str} {v : V} {u : Value} {pos : Pos} (hg : Gl X x) (hm : X.mg x = none) (hv : bootBuiltins x = some u) (r : RelV v u) (hn : x ≠ "__name__" := by decide) (hd : (x == ("__debug__" : Str)) = false := by decide) : PE X (.Name x pos) (tC v) :=
  fun _ _ _ H _ I h => ld_blt I hg hm hv ⟨v, H, I, r, h⟩ hn hd

/-! ### arithmetic -/
/-- two ints -/
def t2I (ta tb : TE) (k : Int → Int → Hp → Prop) : St → Hp → Prop := fun σ H => ta σ H fun x H1 => tb σ H1 fun y H2 => ∃ i j, x = .int i ∧ y = .int j ∧ k i j H2
def tAdd (ta tb : TE) : TE := fun σ H Q => t2I ta tb (fun i j H2 => Q (.int (i + j)) H2) σ H
def tSub (ta tb : TE) : TE := fun σ H Q => t2I ta tb (fun i j H2 => Q (.int (i - j)) H2) σ H
/-- the left factor below 2^64 -/
def tMul (ta tb : TE) : TE := fun σ H Q => t2I ta tb (fun i j H2 => (-(2 ^ 64) < i ∧ i < 2 ^ 64) ∧ Q (.int (i * j)) H2) σ H
variable {a b : Expr} {ta tb : TE} {pos : Pos}
theorem pe_add (ha : PE X a ta) (hb : PE X b tb) : PE X (.BinOp a .Add b pos) (tAdd ta tb) := by
  intro pins s σ H Q I h
  refine wpAny_BinOp (bin ha hb I h fun v u s2 x y H2 I2 rx ry q => ?_)
  obtain ⟨i, j, rfl, rfl, q⟩ := q
  obtain ⟨t, rfl⟩ := rx
  obtain ⟨t', rfl⟩ := ry
  exact add_int ⟨.int _, H2, I2.tok _, ⟨_, rfl⟩, q⟩
theorem pe_sub (ha : PE X a ta) (hb : PE X b tb) : PE X (.BinOp a .Sub b pos) (tSub ta tb) := by
  intro pins s σ H Q I h
  refine wpAny_BinOp (bin ha hb I h fun v u s2 x y H2 I2 rx ry q => ?_)
  obtain ⟨i, j, rfl, rfl, q⟩ := q
  obtain ⟨t, rfl⟩ := rx
  obtain ⟨t', rfl⟩ := ry
  exact sub_int ⟨.int _, H2, I2.tok _, ⟨_, rfl⟩, q⟩
theorem pe_mul (ha : PE X a ta) (hb : PE X b tb) : PE X (.BinOp a .Mult b pos) (tMul ta tb) := by
  intro pins s σ H Q I h
  refine wpAny_BinOp (bin ha hb I h fun v u s2 x y H2 I2 rx ry q => ?_)
  obtain ⟨i, j, rfl, rfl, ⟨q1, q2⟩, q⟩ := q
  obtain ⟨t, rfl⟩ := rx
  obtain ⟨t', rfl⟩ := ry
  exact mul_int ⟨.int _, H2, I2.tok _, ⟨_, rfl⟩, q⟩ (.of_left (intBits_le_64 q1 q2))

/-! ### comparisons -/
def PC (X : Cx) (op : CmpOp) (a b : Expr) (t : TE) : Prop :=
  ∀ (pins : List (Addr × Obj)) (s : Shared) (σ : St) (H : Hp) (Q : VK), Inv X pins σ H s → t σ H Q →
    wpAny (model X.prog X.w) X.A (eval a X.env) (fun v s₁ => wpAny (model X.prog X.w) X.A (eval b X.env) (fun u s₂ => wpAny (model X.prog X.w) X.A (compareOp op v u) (EP X pins σ Q) X.xe s₂) X.xe s₁) X.xe s
theorem nobehind (b : Expr) {op : CmpOp} (h : op ≠ .In) (h2 : op ≠ .NotIn) : behindInMarks op b = false := by
  have e1 : (op == CmpOp.In) = false := by cases op <;> first | rfl | exact absurd rfl h
  have e2 : (op == CmpOp.NotIn) = false := by cases op <;> first | rfl | exact absurd rfl h2
  cases b <;> simp [behindInMarks, e1, e2]
def tCmp (p : Int → Int → Bool) (ta tb : TE) : TE := fun σ H Q => t2I ta tb (fun i j H2 => Q (.bl (p i j)) H2) σ H
abbrev tLt : TE → TE → TE := tCmp fun i j => decide (i < j)
abbrev tLe : TE → TE → TE := tCmp fun i j => decide (i ≤ j)
abbrev tGt : TE → TE → TE := tCmp fun i j => decide (j < i)
abbrev tGe : TE → TE → TE := tCmp fun i j => decide (j ≤ i)
abbrev tEqI : TE → TE → TE := tCmp fun i j => decide (i = j)
abbrev tNeI : TE → TE → TE := tCmp fun i j => !decide (i = j)
/-- a comparison of two ints, by its rule -/
theorem pc_int {op : CmpOp} {p : Int → Int → Bool} (ha : PE X a ta) (hb : PE X b tb)
    (rule : ∀ (i j : Int) (t u : Tok) (Q : Value → Shared → Prop) (s : Shared), Q (.bool (p i j)) s → wpAny (model X.prog X.w) X.A (compareOp op (.int i t) (.int j u)) Q X.xe s) : PC X op a b (tCmp p ta tb) := by
  intro pins s σ H Q I h
  refine bin ha hb I h fun v u s2 x y H2 I2 rx ry q => ?_
  obtain ⟨i, j, rfl, rfl, q⟩ := q
  obtain ⟨t, rfl⟩ := rx
  obtain ⟨t', rfl⟩ := ry
  exact rule i j t t' _ s2 ⟨.bl _, H2, I2, rfl, q⟩
theorem pc_lt (ha : PE X a ta) (hb : PE X b tb) : PC X .Lt a b (tLt ta tb) := pc_int ha hb fun _ _ _ _ _ _ h => lt_int h
theorem pc_le (ha : PE X a ta) (hb : PE X b tb) : PC X .LtE a b (tLe ta tb) := pc_int ha hb fun _ _ _ _ _ _ h => le_int h
theorem pc_gt (ha : PE X a ta) (hb : PE X b tb) : PC X .Gt a b (tGt ta tb) := pc_int ha hb fun _ _ _ _ _ _ h => gt_int h
theorem pc_ge (ha : PE X a ta) (hb : PE X b tb) : PC X .GtE a b (tGe ta tb) := pc_int ha hb fun _ _ _ _ _ _ h => ge_int h
theorem pc_eqI (ha : PE X a ta) (hb : PE X b tb) : PC X .Eq a b (tEqI ta tb) := pc_int ha hb fun _ _ _ _ _ _ h => eq_int (by rw [Bool.beq_eq_decide_eq]; exact h)
theorem pc_neI (ha : PE X a ta) (hb : PE X b tb) : PC X .NotEq a b (tNeI ta tb) := pc_int ha hb fun _ _ _ _ _ _ h => ne_int (by rw [bne, Bool.beq_eq_decide_eq]; exact h)
/-- is None -/
def tIsN (ta : TE) : TE := fun σ H Q => ta σ H fun x H1 => Q (.bl (decide (x = .non))) H1
def tNotN (ta : TE) : TE := fun σ H Q => ta σ H fun x H1 => Q (.bl (!decide (x = .non))) H1
theorem RelV.none_iff {x : V} {v : Value} (r : RelV x v) : (v == Value.none) = decide (x = .non) := by
  cases x with
  | non => cases r; rfl
  | bl _ => cases r; rfl
  | int _ => obtain ⟨t, rfl⟩ := r; rfl
  | str _ => obtain ⟨t, rfl⟩ := r; rfl
  | byt _ => obtain ⟨t, rfl⟩ := r; rfl
  | flt _ => obtain ⟨t, rfl⟩ := r; rfl
  | ref _ => cases r; rfl
  | ty _ => cases r; rfl
theorem pc_isN {j pos'} (ha : PE X a ta) : PC X .Is a (.Constant .none j pos') (tIsN ta) := by
  intro pins s σ H Q I h
  refine thn (ha pins s σ H _ I h) fun v s1 ⟨x, H1, I1, r1, q1⟩ => ?_
  exact Constant_none (is_none_gen ⟨.bl _, H1, I1, by rw [r1.none_iff]; rfl, q1⟩)
theorem pc_notN {j pos'} (ha : PE X a ta) : PC X .IsNot a (.Constant .none j pos') (tNotN ta) := by
  intro pins s σ H Q I h
  refine thn (ha pins s σ H _ I h) fun v s1 ⟨x, H1, I1, r1, q1⟩ => ?_
  exact Constant_none (isnot_none_gen ⟨.bl _, H1, I1, by rw [r1.none_iff]; rfl, q1⟩)
/-- a comparison as a value, as a test -/
def tB (t : TE) : TT := fun σ H Q => t σ H fun x H1 => ∃ c, x = .bl c ∧ Q c H1
theorem pe_cmp {op : CmpOp} {t : TE} (h : PC X op a b t) (h1 : behindInMarks op b = false := by first | exact nobehind _ (by decide) (by decide) | rfl) : PE X (.Compare a [op] [b] pos) t := fun pins s σ H Q I hw => wpAny_Compare1 (h pins s σ H Q I hw) h1
theorem pt_cmp {op : CmpOp} {t : TE} (h : PC X op a b t) (h1 : behindInMarks op b = false := by first | exact nobehind _ (by decide) (by decide) | rfl) : PT X (.Compare a [op] [b] pos) (tB t) := by
  intro pins s σ H Q I hw
  refine wpAny_isTrue_Compare1 (thn (h pins s σ H _ I hw) fun v s1 h1 => thn h1 fun u s2 h2 => thn h2 fun c s3 ⟨x, H1, I1, r1, q1⟩ => ?_) h1
  obtain ⟨d, rfl, q⟩ := q1
  cases r1
  exact wpAny_truthy_bool ⟨H1, I1, q⟩
/-- an expression whose value is a bool, as a test -/
theorem pt_val {e : Expr} {t : TE} (h : PE X e t) (he : ∀ whole, isTrue e X.env whole = (do let v ← whole; standAt e.pos; holding [v] (truthy v)) := by intro _; rfl) : PT X e (tB t) := by
  intro pins s σ H Q I hw
  refine isTrue_plain (thn (h pins s σ H _ I hw) fun v s1 ⟨x, H1, I1, r1, q1⟩ => ?_) (he _)
  obtain ⟨d, rfl, q⟩ := q1
  cases r1
  exact wpAny_truthy_bool ⟨H1, I1, q⟩

/-! ### and, or, not -/
variable {tA tB' : TT} {rest : List Expr}
def tAnd (t u : TT) : TT := fun σ H Q => t σ H fun c H1 => if c = true then u σ H1 Q else Q false H1
def tOr (t u : TT) : TT := fun σ H Q => t σ H fun c H1 => if c = true then Q true H1 else u σ H1 Q
def tNot (t : TT) : TT := fun σ H Q => t σ H fun c H1 => Q (!c) H1
theorem pw_and1 (ha : PT X a tA) : PW X (.BoolOp .And [a] pos) tA := by
  intro wh pins s σ H Q I h
  refine isTrue_and (thn (ha pins s σ H Q I h) fun c s1 e => ?_)
  cases c with
  | true => exact isTrue_and_nil e
  | false => exact e
theorem pw_or1 (ha : PT X a tA) : PW X (.BoolOp .Or [a] pos) tA := by
  intro wh pins s σ H Q I h
  refine isTrue_or (thn (ha pins s σ H Q I h) fun c s1 e => ?_)
  cases c with
  | false => exact isTrue_or_nil e
  | true => exact e
theorem pw_and (ha : PT X a tA) (hb : PW X (.BoolOp .And (b :: rest) pos) tB') : PW X (.BoolOp .And (a :: b :: rest) pos) (tAnd tA tB') := by
  intro wh pins s σ H Q I h
  refine isTrue_and (thn (ha pins s σ H _ I h) fun c s1 ⟨H1, I1, q1⟩ => ?_)
  cases c with
  | true => exact hb wh pins s1 σ H1 Q I1 q1
  | false => exact ⟨H1, I1, q1⟩
theorem pw_or (ha : PT X a tA) (hb : PW X (.BoolOp .Or (b :: rest) pos) tB') : PW X (.BoolOp .Or (a :: b :: rest) pos) (tOr tA tB') := by
  intro wh pins s σ H Q I h
  refine isTrue_or (thn (ha pins s σ H _ I h) fun c s1 ⟨H1, I1, q1⟩ => ?_)
  cases c with
  | true => exact ⟨H1, I1, q1⟩
  | false => exact hb wh pins s1 σ H1 Q I1 q1
theorem pt_not (ha : PT X a tA) : PT X (.UnaryOp .Not a pos) (tNot tA) := by
  intro pins s σ H Q I h
  exact isTrue_not (ha pins s σ H (fun c H1 => Q (!c) H1) I h)
/-- .. as values (bools) -/
def tAndV (ta tb : TE) : TE := fun σ H Q => ta σ H fun x H1 => ∃ c, x = .bl c ∧ if c = true then tb σ H1 Q else Q (.bl false) H1
def tOrV (ta tb : TE) : TE := fun σ H Q => ta σ H fun x H1 => ∃ c, x = .bl c ∧ if c = true then Q (.bl true) H1 else tb σ H1 Q
def tNotV (ta : TE) : TE := fun σ H Q => ta σ H fun x H1 => ∃ c, x = .bl c ∧ Q (.bl (!c)) H1
theorem pe_one {op} {t : TE} (h : PE X a t) : PE X (.BoolOp op [a] pos) t := fun pins s σ H Q I hw => BoolOp_one (h pins s σ H Q I hw)
theorem pe_and (ha : PE X a ta) (hb : PE X (.BoolOp .And (b :: rest) pos) tb) : PE X (.BoolOp .And (a :: b :: rest) pos) (tAndV ta tb) := by
  intro pins s σ H Q I h
  refine BoolOp_and (thn (ha pins s σ H _ I h) fun v s1 ⟨x, H1, I1, r1, q1⟩ => ?_)
  obtain ⟨c, rfl, q1⟩ := q1
  cases r1
  refine wpAny_truthy_bool ?_
  cases c with
  | true => exact hb pins s1 σ H1 Q I1 q1
  | false => exact ⟨.bl false, H1, I1, rfl, q1⟩
theorem pe_or (ha : PE X a ta) (hb : PE X (.BoolOp .Or (b :: rest) pos) tb) : PE X (.BoolOp .Or (a :: b :: rest) pos) (tOrV ta tb) := by
  intro pins s σ H Q I h
  refine BoolOp_or (thn (ha pins s σ H _ I h) fun v s1 ⟨x, H1, I1, r1, q1⟩ => ?_)
  obtain ⟨c, rfl, q1⟩ := q1
  cases r1
  refine wpAny_truthy_bool ?_
  cases c with
  | false => exact hb pins s1 σ H1 Q I1 q1
  | true => exact ⟨.bl true, H1, I1, rfl, q1⟩
theorem pe_not (ha : PE X a ta) : PE X (.UnaryOp .Not a pos) (tNotV ta) := by
  intro pins s σ H Q I h
  refine UnaryOp_ (thn (ha pins s σ H _ I h) fun v s1 ⟨x, H1, I1, r1, q1⟩ => ?_)
  obtain ⟨c, rfl, q1⟩ := q1
  cases r1
  exact not_of (wpAny_truthy_bool ⟨.bl (!c), H1, I1, rfl, q1⟩)
/-- a if t else b -/
def tIf (t : TT) (ta tb : TE) : TE := fun σ H Q => t σ H fun c H1 => if c = true then ta σ H1 Q else tb σ H1 Q
theorem pe_ifExp {c : Expr} (hc : PT X c tA) (ha : PE X a ta) (hb : PE X b tb) : PE X (.IfExp c a b pos) (tIf tA ta tb) := by
  intro pins s σ H Q I h
  refine wpAny_IfExp (thn (hc pins s σ H _ I h) fun d s1 ⟨H1, I1, q1⟩ => ?_)
  cases d with
  | true => exact ha pins s1 σ H1 Q I1 q1
  | false => exact hb pins s1 σ H1 Q I1 q1
end
end L2

namespace L2
open PySem PySem.Spec PyProof.Rows

/-! ### a list, a tuple that is read: tracked, frozen, or an object of the module -/
def SqL (K : PySem.W.Frag) (H : Hp) (a : Addr) (xs : List V) : Prop :=
  Rd H a (.lst xs) ∨
    ∃ (o : Obj) (its : Array Value) (n : Nat), K.lookup a = some o ∧ o.cls = .type "list" ∧ o.dict = none ∧ o.data = .seq its n ∧ its.size ≤ sizeLine ∧ Vals xs its.toList
def SqT (K : PySem.W.Frag) (H : Hp) (a : Addr) (xs : List V) : Prop :=
  Rd H a (.tup xs) ∨
    ∃ (o : Obj) (its : Array Value) (n : Nat), K.lookup a = some o ∧ o.cls = .type "tuple" ∧ o.data = .seq its n ∧ its.size ≤ sizeLine ∧ Vals xs its.toList
def absV : Value → Option V
  | .none => some .non
  | .bool b => some (.bl b)
  | .int i _ => some (.int i)
  | .str x _ => some (.str x)
  | .bytes b _ => some (.byt b)
  | .float b _ => some (.flt b)
  | .ref a => some (.ref a)
  | .type n => some (.ty n)
  | _ => none
theorem RelV.abs {x : V} {u : Value} (r : RelV x u) : absV u = some x := by
  cases x with
  | non => cases r; rfl
  | bl _ => cases r; rfl
  | int _ => obtain ⟨t, rfl⟩ := r; rfl
  | str _ => obtain ⟨t, rfl⟩ := r; rfl
  | byt _ => obtain ⟨t, rfl⟩ := r; rfl
  | flt _ => obtain ⟨t, rfl⟩ := r; rfl
  | ref _ => cases r; rfl
  | ty _ => cases r; rfl
theorem RelV.inj {x y : V} {u : Value} (r : RelV x u) (q : RelV y u) : x = y := Option.some.inj (r.abs.symm.trans q.abs)
theorem Vals.inj : ∀ {xs ys : List V} {us : List Value}, Vals xs us → Vals ys us → xs = ys
  | _, _, _, .nil, .nil => rfl
  | _, _, _, .cons r t, .cons r' t' => by rw [r.inj r', Vals.inj t t']
section
variable {X : Cx} {pins : List (Addr × Obj)} {σ : St} {H : Hp} {s : Shared} {a : Addr} {xs ys : List V}
theorem SqL.of {K : PySem.W.Frag} (h : H a = some (.lst xs)) : SqL K H a xs := .inl (.inl h)
theorem SqT.of {K : PySem.W.Frag} (h : H a = some (.tup xs)) : SqT K H a xs := .inl (.inl h)
theorem Inv.list (I : Inv X pins σ H s) (h : SqL X.K H a xs) : ∃ its : List Value, Vals xs its ∧ PlainL s.heap a its.toArray ∧ xs.length ≤ sizeLine := by
  rcases h with h | ⟨o, its, n, hk, hc, hd, hs, hz, r⟩
  · obtain ⟨z, its, n, r, e⟩ := h.ok I.hok
    exact ⟨its, r, ⟨_, n, e, rfl, rfl, rfl⟩, z⟩
  · refine ⟨its.toList, r, ⟨o, n, I.kIn a o hk, hc, hd, by simpa using hs⟩, ?_⟩
    have e := r.length
    simp only [Array.length_toList] at e
    omega
theorem Inv.tuple (I : Inv X pins σ H s) (h : SqT X.K H a xs) : ∃ its : List Value, Vals xs its ∧ IsTup s.heap a its.toArray ∧ xs.length ≤ sizeLine := by
  rcases h with h | ⟨o, its, n, hk, hc, hs, hz, r⟩
  · obtain ⟨z, its, r, p⟩ := h.ok I.hok
    exact ⟨its, r, p, z⟩
  · refine ⟨its.toList, r, ⟨o, I.kIn a o hk, hc, n, by simpa using hs⟩, ?_⟩
    have e := r.length
    simp only [Array.length_toList] at e
    omega
theorem Inv.list_inj (I : Inv X pins σ H s) (h : SqL X.K H a xs) (h' : SqL X.K H a ys) : xs = ys := by
  obtain ⟨its, r, ⟨o, n, e, _, _, d⟩, _⟩ := I.list h
  obtain ⟨its', r', ⟨o', n', e', _, _, d'⟩, _⟩ := I.list h'
  rw [e] at e'; cases e'
  rw [d] at d'
  injection d' with d1 _
  have : its = its' := by simpa using congrArg Array.toList d1
  subst this
  exact r.inj r'
theorem Inv.tuple_inj (I : Inv X pins σ H s) (h : SqT X.K H a xs) (h' : SqT X.K H a ys) : xs = ys := by
  obtain ⟨its, r, ⟨o, e, _, n, d⟩, _⟩ := I.tuple h
  obtain ⟨its', r', ⟨o', e', _, n', d'⟩, _⟩ := I.tuple h'
  rw [e] at e'; cases e'
  rw [d] at d'
  injection d' with d1 _
  have : its = its' := by simpa using congrArg Array.toList d1
  subst this
  exact r.inj r'
end

/-! ### another wish about exceptions -/
abbrev Cx.wish (X : Cx) (E : Value → Shared → Prop) : Cx := { X with xe := E }
/-- no exception leaves -/
abbrev Cx.nox (X : Cx) : Cx := X.wish fun _ _ => False
theorem Cx.Ok.wish {X : Cx} (ok : X.Ok) (E : Value → Shared → Prop) : (X.wish E).Ok :=
  ⟨ok.mod, ok.kind, ok.glob, ok.blt, ok.above, ok.inj, ok.has, ok.cab, ok.hd, ok.frames, ok.stk, ok.exf, ok.bs, ok.bsz, ok.noex, ok.exfs, ok.funs, ok.frf⟩
theorem Cx.Ok.unwish {X : Cx} {E : Value → Shared → Prop} (ok : (X.wish E).Ok) : X.Ok :=
  ⟨ok.mod, ok.kind, ok.glob, ok.blt, ok.above, ok.inj, ok.has, ok.cab, ok.hd, ok.frames, ok.stk, ok.exf, ok.bs, ok.bsz, ok.noex, ok.exfs, ok.funs, ok.frf⟩
section
variable {X : Cx} {pins : List (Addr × Obj)} {σ : St} {H : Hp} {s : Shared} {E : Value → Shared → Prop}
theorem Inv.wish (I : Inv X pins σ H s) (E : Value → Shared → Prop) : Inv (X.wish E) pins σ H s := ⟨I.ok.wish E, I.os, I.bare, I.base, I.loc, I.cell, I.free, I.freeC, I.pin, I.hok, I.len⟩
theorem Inv.unwish (I : Inv (X.wish E) pins σ H s) : Inv X pins σ H s := ⟨I.ok.unwish, I.os, I.bare, I.base, I.loc, I.cell, I.free, I.freeC, I.pin, I.hok, I.len⟩
theorem SP.unwish {D : Ends} {f : Flow} {s' : Shared} (h : SP (X.wish E) pins D f s') : SP X pins D f s' := by
  cases f with
  | next => obtain ⟨σ', H', I, q⟩ := h; exact ⟨σ', H', I.unwish, q⟩
  | brk => obtain ⟨σ', H', I, q⟩ := h; exact ⟨σ', H', I.unwish, q⟩
  | cont => obtain ⟨σ', H', I, q⟩ := h; exact ⟨σ', H', I.unwish, q⟩
  | ret u => obtain ⟨v, σ', H', I, r, q⟩ := h; exact ⟨v, σ', H', I.unwish, r, q⟩
theorem PE.nox {e : Expr} {t : TE} (h : PE X.nox e t) : PE X e t := fun pins s σ H Q I hw =>
  wpAny_mono (h pins s σ H Q (I.wish _) hw) (fun _ _ ⟨v, H', I', r, q⟩ => ⟨v, H', I'.unwish, r, q⟩) fun _ _ z => False.elim z
theorem PT.nox {e : Expr} {t : TT} (h : PT X.nox e t) : PT X e t := fun pins s σ H Q I hw =>
  wpAny_mono (h pins s σ H Q (I.wish _) hw) (fun _ _ ⟨H', I', q⟩ => ⟨H', I'.unwish, q⟩) fun _ _ z => False.elim z
theorem PSs.nox {st : List Stmt} {t : TS} (h : PSs X.nox st t) : PSs X st t := fun pins s σ H D I hw =>
  wpAny_mono (h pins s σ H D (I.wish _) hw) (fun _ _ q => q.unwish) fun _ _ z => False.elim z
end

/-! ### blocks and small statements -/
section
variable {X : Cx} {st : Stmt} {rest : List Stmt} {t u : TS} {e : Expr} {te : TE} {pos : Pos}
def tNext : TS := fun D σ H => D.nx σ H
def tSeq (t u : TS) : TS := fun D σ H => t { D with nx := u D } σ H
theorem pss_nil : PSs X [] tNext := fun _ _ σ H _ I h => wpAny_execs_nil ⟨σ, H, I, h⟩
theorem pss_cons (h1 : PS X st t) (h2 : PSs X rest u) : PSs X (st :: rest) (tSeq t u) := by
  intro pins s σ H D I h
  refine wpAny_execs_cons (thn (h1 pins s σ H { D with nx := u D } I h) fun f s1 q => ?_)
  cases f with
  | next =>
    obtain ⟨σ', H', I', q⟩ := q
    exact h2 pins s1 σ' H' D I' q
  | ret v => exact q
  | brk => exact q
  | cont => exact q
theorem pss_one (h1 : PS X st t) : PSs X [st] t := by
  intro pins s σ H D I h
  refine wpAny_execs_cons (thn (h1 pins s σ H D I h) fun f s1 q => ?_)
  cases f with
  | next => exact wpAny_execs_nil q
  | ret v => exact q
  | brk => exact q
  | cont => exact q
def tBreak : TS := fun D σ H => D.bk σ H
def tCont : TS := fun D σ H => D.ct σ H
theorem ps_pass : PS X (.Pass pos) tNext := fun _ _ σ H _ I h => wpAny_Pass ⟨σ, H, I, h⟩
theorem ps_break : PS X (.Break pos) tBreak := fun _ _ σ H _ I h => wpAny_Break ⟨σ, H, I, h⟩
theorem ps_continue : PS X (.Continue pos) tCont := fun _ _ σ H _ I h => wpAny_Continue ⟨σ, H, I, h⟩
/-- in a def's body nothing is shown -/
theorem Inv.quiet {pins : List (Addr × Obj)} {σ : St} {H : Hp} {s : Shared} (I : Inv X pins σ H s) : interactive X.env = false := by simp [interactive, I.ok.kind]
/-- a docstring -/
theorem ps_doc {x j pos pos'} : PS X (.Expr (.Constant (.str x) j pos) pos') tNext := fun _ s σ H _ I h => wpAny_Expr (Calls.Constant_str (show SP X _ _ .next { s with toks := s.toks + 1 } from ⟨σ, H, I.tok _, h⟩)) I.quiet
/-- an expression whose value is dropped -/
def tDrop (te : TE) : TS := fun D σ H => te σ H fun _ H1 => D.nx σ H1
theorem ps_expr (he : PE X e te) (hs : swapsWith e none pos.line X.env = pure false := by rfl) : PS X (.Expr e pos) (tDrop te) := by
  intro pins s σ H D I h
  exact wpAny_Expr_any (thn (he pins s σ H _ I h) fun v s1 ⟨x, H1, I1, r1, q1⟩ => ⟨σ, H1, I1, q1⟩) I.quiet hs
def tRet (te : TE) : TS := fun D σ H => te σ H D.rt
theorem ps_ret (he : PE X e te) : PS X (.Return (some e) pos) (tRet te) := by
  intro pins s σ H D I h
  exact wpAny_Return_some (thn (he pins s σ H _ I h) fun v s1 ⟨x, H1, I1, r1, q1⟩ => ⟨x, σ, H1, I1, r1, q1⟩)
def tRetN : TS := fun D _ H => D.rt .non H
theorem ps_retN : PS X (.Return none pos) tRetN := fun _ _ σ H _ I h => wpAny_Return_none ⟨.non, σ, H, I, rfl, h⟩
def tIfS (c : TT) (t u : TS) : TS := fun D σ H => c σ H fun b H1 => if b = true then t D σ H1 else u D σ H1
theorem ps_if {c : Expr} {a b : List Stmt} {tc : TT} (hc : PT X c tc) (ha : PSs X a t) (hb : PSs X b u) : PS X (.If c a b pos) (tIfS tc t u) := by
  intro pins s σ H D I h
  refine wpAny_If (thn (hc pins s σ H _ I h) fun d s1 ⟨H1, I1, q1⟩ => ?_)
  cases d with
  | true => exact ha pins s1 σ H1 D I1 q1
  | false => exact hb pins s1 σ H1 D I1 q1
/-- code that the proof never comes to -/
def tNever : TS := fun _ _ _ => False
theorem ps_never : PS X st tNever := fun _ _ _ _ _ _ h => h.elim
theorem pss_never {sts : List Stmt} : PSs X sts tNever := fun _ _ _ _ _ _ h => h.elim
end

/-! ### targets -/
abbrev TG := V → St → Hp → (St → Hp → Prop) → Prop
abbrev TGs := List V → St → Hp → (St → Hp → Prop) → Prop
def PG (X : Cx) (target : Expr) (t : TG) : Prop :=
  ∀ (pins : List (Addr × Obj)) (s : Shared) (σ : St) (H : Hp) (v : V) (u : Value) (Q : St → Hp → Prop), Inv X pins σ H s → RelV v u → t v σ H Q →
    wpAny (model X.prog X.w) X.A (assign target X.env u) (fun _ s' => ∃ σ' H', Inv X pins σ' H' s' ∧ Q σ' H') X.xe s
/-- several targets, one after another -/
def PGs (X : Cx) (ts : List Expr) (t : TGs) : Prop :=
  ∀ (pins : List (Addr × Obj)) (s : Shared) (σ : St) (H : Hp) (vs : List V) (us : List Value) (Q : St → Hp → Prop), Inv X pins σ H s → Vals vs us → t vs σ H Q →
    wpAny (model X.prog X.w) X.A (assignInOrder ((assignEach ts X.env).map (·.2)) us) (fun _ s' => ∃ σ' H', Inv X pins σ' H' s' ∧ Q σ' H') X.xe s
/-- o[i] = v, by values -/
abbrev TSet := V → V → V → Hp → (Hp → Prop) → Prop
def PSet (X : Cx) (t : TSet) : Prop :=
  ∀ (pins : List (Addr × Obj)) (s : Shared) (σ : St) (H : Hp) (o i v : V) (ov iv u : Value) (Q : Hp → Prop), Inv X pins σ H s → RelV o ov → RelV i iv → RelV v u → t o i v H Q →
    wpAny (model X.prog X.w) X.A (setItem ov iv u) (fun _ s' => ∃ H', Inv X pins σ H' s' ∧ Q H') X.xe s
/-- a op= b, by values -/
abbrev TIp := V → V → Hp → VK → Prop
def PIp (X : Cx) (op : Operator) (t : TIp) : Prop :=
  ∀ (pins : List (Addr × Obj)) (s : Shared) (σ : St) (H : Hp) (x y : V) (v u : Value) (Q : VK), Inv X pins σ H s → RelV x v → RelV y u → t x y H Q →
    wpAny (model X.prog X.w) X.A (inplaceOp op v u) (EP X pins σ Q) X.xe s
section
variable {X : Cx} {pos : Pos}
def gName (i : Nat) : TG := fun v σ H Q => Q (σ.set i (some v)) H
theorem pg_name {i : Nat} {x : Str} (hN : X.N.Nodup) (hi : X.N[i]? = some x) (hx : Loc X.env.scope x) (hf : X.fn x = true ∨ X.env.scope.names.lookup x = some .local := by first | exact .inl rfl | exact .inr rfl | assumption) : PG X (.Name x pos) (gName i) := by
  intro pins s σ H v u Q I r h
  exact wpAny_assign_Name (store_ok I hN hi hx r (fun s' I' => ⟨_, H, I', h⟩) hf)
def gNil : TGs := fun vs σ H Q => vs = [] ∧ Q σ H
def gCons (t : TG) (u : TGs) : TGs := fun vs σ H Q => ∃ v r, vs = v :: r ∧ t v σ H fun σ' H' => u r σ' H' Q
theorem pgs_nil : PGs X [] gNil := by
  intro pins s σ H vs us Q I r h
  obtain ⟨e, h⟩ := h
  subst e
  cases r
  exact assignInOrder_nil ⟨σ, H, I, h⟩
theorem pgs_cons {e : Expr} {es : List Expr} {t : TG} {u : TGs} (h1 : PG X e t) (h2 : PGs X es u)
    (hs : (assignEach (e :: es) X.env).map (·.2) = assign e X.env :: (assignEach es X.env).map (·.2) := by rfl) : PGs X (e :: es) (gCons t u) := by
  intro pins s σ H vs us Q I r h
  obtain ⟨v, vr, e1, h⟩ := h
  subst e1
  cases r with
  | cons r rr =>
    rw [hs]
    refine assignInOrder_cons (thn (h1 pins s σ H _ _ _ I r h) fun _ s1 ⟨σ1, H1, I1, q1⟩ => ?_)
    exact h2 pins s1 σ1 H1 _ _ Q I1 rr q1
/-- (a, b, ..) = a tuple of that length -/
def gTup (K : PySem.W.Frag) (n : Nat) (t : TGs) : TG := fun v σ H Q => ∃ a xs, v = .ref a ∧ SqT K H a xs ∧ xs.length = n ∧ t xs σ H Q
theorem pg_tup {es : List Expr} {k : Nat} {t : TGs} {n : Nat} (hc : X.calm = true) (h : PGs X es t)
    (hn : (assignEach es X.env).length = n := by rfl) (hst : (assignEach es X.env).findIdx? (·.1) = none := by rfl) : PG X (.Tuple es k pos) (gTup X.K n t) := by
  intro pins s σ H v u Q I r hw
  obtain ⟨a, xs, e1, hq, hl, hw⟩ := hw
  subst e1
  cases r
  obtain ⟨its, rv, ht, hz⟩ := I.tuple hq
  refine assign_Tuple_tuple (I.ok.hd hc) ht (by simp [hn, ← hl, rv.length]) hst fun h' hx => ?_
  have I1 : Inv X pins σ H { s with heap := h' } := I.kept (t' := s.toks) fun b o e => hx b o (Nat.ne_of_lt (Heap.lt_size e)) e
  exact h pins _ σ H xs _ Q I1 (by simpa using rv) hw
/-- o[i] = .. -/
def gSub (to ti : TE) (t : TSet) : TG := fun v σ H Q => to σ H fun o H1 => ti σ H1 fun i H2 => t o i v H2 fun H3 => Q σ H3
theorem pg_sub {o i : Expr} {to ti : TE} {t : TSet} (ho : PE X o to) (hi : PE X i ti) (hs : PSet X t)
    (ha : ∀ v, assign (.Subscript o i pos) X.env v = (do
      let ov ← holding [v] (eval o X.env)
      let iv ← holding [v, ov] (eval i X.env)
      standAt pos
      holding [v, ov, iv] (setItem ov iv v)
      release [v, ov, iv] []) := by intro _; rfl) : PG X (.Subscript o i pos) (gSub to ti t) := by
  intro pins s σ H v u Q I r h
  rw [ha]
  refine wpAny_bind (wpAny_holding (thn (ho pins s σ H _ I h) fun ov s1 ⟨x, H1, I1, r1, q1⟩ => ?_))
  refine wpAny_bind (wpAny_holding (thn (hi pins s1 σ H1 _ I1 q1) fun iv s2 ⟨y, H2, I2, r2, q2⟩ => ?_))
  refine wpAny_bind (wpAny_standAt (wpAny_bind (wpAny_holding (thn (hs pins s2 σ H2 x y v ov iv u _ I2 r1 r2 r q2) fun _ s3 ⟨H3, I3, q3⟩ => ?_))))
  exact wpAny_release ⟨σ, H3, I3, q3⟩
/-- target = value -/
def tAsg (te : TE) (g : TG) : TS := fun D σ H => te σ H fun x H1 => g x σ H1 D.nx
theorem ps_asg {tg e : Expr} {te : TE} {g : TG} (he : PE X e te) (hg : PG X tg g) (hs : swapsWithSole [tg] e pos.line X.env = pure false := by rfl) (hw : swappedStores [tg] e X.env = pure none := by rfl)
    (h1 : (assignEach [tg] X.env).map (·.2) = [assign tg X.env] := by rfl) : PS X (.Assign [tg] e pos) (tAsg te g) := by
  intro pins s σ H D I h
  refine wpAny_Assign_stores (thn (he pins s σ H _ I h) fun v s1 ⟨x, H1, I1, r1, q1⟩ => ?_) hs hw
  rw [h1]
  exact thn (hg pins s1 σ H1 x v _ I1 r1 q1) fun _ s2 q => q
/-- name = value -/
theorem ps_set {i : Nat} {x : Str} {e : Expr} {te : TE} {pos' : Pos} (hN : X.N.Nodup) (hi : X.N[i]? = some x) (hx : Loc X.env.scope x) (he : PE X e te) (hs : swapsWith e (some (.Name x pos')) pos.line X.env = pure false := by rfl) (hf : X.fn x = true ∨ X.env.scope.names.lookup x = some .local := by first | exact .inl rfl | exact .inr rfl | assumption) :
    PS X (.Assign [.Name x pos'] e pos) (tAsg te (gName i)) := by
  intro pins s σ H D I h
  refine wpAny_Assign_Name (thn (he pins s σ H _ I h) fun v s1 ⟨y, H1, I1, r1, q1⟩ => ?_) hs
  exact store_ok I1 hN hi hx r1 (fun s2 I2 => ⟨_, H1, I2, q1⟩) hf
/-- a, b = x, y with plain local names: stored from the right; the pair itself is not tracked (the opening rows as in PyProof/Rows/TupAssign.lean:23) -/
def tPar (i j : Nat) (ta : TA) : TS := fun D σ H => ta σ H fun vs H1 => ∃ v w, vs = [v, w] ∧ D.nx ((σ.set i (some v)).set j (some w)) H1
theorem ps_par {i j : Nat} {x y : Str} {a b : Expr} {ta : TA} {px py pt : Pos} {kt k2 pt2} (hc : X.calm = true) (hN : X.N.Nodup) (hi : X.N[i]? = some x) (hj : X.N[j]? = some y) (hij : i ≠ j)
    (hx : X.env.scope.names.lookup x = some .local) (hy : X.env.scope.names.lookup y = some .local) (ha : PA X [a, b] ta)
    (hw : swappedStores [.Tuple [.Name x px, .Name y py] kt pt] (.Tuple [a, b] k2 pt2) X.env = pure (some [x, y]))
    (hs : swapsWithSole [.Tuple [.Name x px, .Name y py] kt pt] (.Tuple [a, b] k2 pt2) pos.line X.env = pure false := by rfl) :
    PS X (.Assign [.Tuple [.Name x px, .Name y py] kt pt] (.Tuple [a, b] k2 pt2) pos) (tPar i j ta) := by
  intro pins s σ H D I h
  rw [exec_Assign_arm]
  refine wpAny_bind (wpAny_standAt ?_)
  rw [hs]
  refine wpAny_bind (wpAny_pure ?_)
  rw [if_neg (by decide)]
  refine wpAny_bind (Tuple_ (thn (ha _ pins s σ H _ I h) fun us s1 ⟨vs, H1, I1, r1, q1⟩ => ?_))
  obtain ⟨v, w, e1, q1⟩ := q1
  subst e1
  obtain ⟨u1, u2, rfl, rv, rw'⟩ : ∃ u1 u2, us = [u1, u2] ∧ RelV v u1 ∧ RelV w u2 := by
    cases r1 with
    | cons p q =>
      cases q with
      | cons p' q' =>
        cases q'
        exact ⟨_, _, rfl, p, p'⟩
  refine wpAny_newObj_type ?_ (by show 2 ≤ sizeLine; decide)
  have I2 : Inv X pins σ H1 { s1 with heap := s1.heap.push { cls := .type "tuple", data := .seq [u1, u2].toArray } } := I1.kept (t' := s1.toks) fun b o e => Heap.get?_push_of_some _ e
  rw [hw]
  refine wpAny_bind (wpAny_pure ?_)
  show wpAny (model X.prog X.w) X.A (do rule "assign.swapped-stores"; let items ← unpackItems (.ref s1.heap.objs.size) 2 none; assignInOrder [fun v => bindName X.env y v, fun v => bindName X.env x v] items.reverse; pure Flow.next) _ _ _
  refine wpAny_bind (wpAny_rule (wpAny_bind (unpackItems_tuple (items := #[u1, u2]) (I.ok.hd hc) (IsTup.new s1.heap _) fun h' hx' => ?_)))
  have I3 := I2.kept (h' := h') (t' := s1.toks) fun b o e => hx' b o (Nat.ne_of_lt (Heap.lt_size e)) e
  show wpAny _ _ (assignInOrder [fun v => bindName X.env y v, fun v => bindName X.env x v] [u2, u1] >>= fun _ => pure Flow.next) _ _ _
  refine wpAny_bind (assignInOrder_cons (wpAny_bindName (store_ok I3 hN hj (.inl hy) rw' (fun s2 I4 => ?_) (.inr hy))))
  refine assignInOrder_cons (wpAny_bindName (store_ok I4 hN hi (.inl hx) rv (fun s3 I5 => assignInOrder_nil (wpAny_pure ?_)) (.inr hx)))
  rw [List.set_comm _ _ (Ne.symm hij)] at I5
  exact ⟨_, H1, I5, q1⟩
/-- name op= e -/
def tAug (i : Nat) (te : TE) (ti : TIp) : TS := fun D σ H => ∃ x, σ[i]? = some (some x) ∧ te σ H fun y H1 => ti x y H1 fun z H2 => D.nx (σ.set i (some z)) H2
theorem ps_aug {i : Nat} {x : Str} {e : Expr} {te : TE} {op : Operator} {ti : TIp} {pos' : Pos} (hN : X.N.Nodup) (hi : X.N[i]? = some x) (hx : Loc X.env.scope x) (he : PE X e te) (ho : PIp X op ti) (hf : X.fn x = true ∨ X.env.scope.names.lookup x = some .local := by first | exact .inl rfl | exact .inr rfl | assumption) :
    PS X (.AugAssign (.Name x pos') op e pos) (tAug i te ti) := by
  intro pins s σ H D I h
  obtain ⟨v, e1, h⟩ := h
  obtain ⟨m, hn, hl⟩ := I.loc
  have vis : Vis X.env.scope x := by rcases hx with k | k; exact .inl k; exact .inr (.inl k)
  obtain ⟨u, r, l⟩ := hl i x v hi e1 vis
  refine wpAny_AugAssign_Name ?_
  have go : wpAny (model X.prog X.w) X.A (eval e X.env) (fun w s₂ => wpAny (model X.prog X.w) X.A (inplaceOp op u w) (fun r s₃ => wpAny (model X.prog X.w) X.A (storeName X.env x r) (fun _ => SP X pins D .next) X.xe s₃) X.xe s₂) X.xe s := by
    refine thn (he pins s σ H _ I h) fun w s1 ⟨y, H1, I1, r1, q1⟩ => ?_
    refine thn (ho pins s1 σ H1 v y u w _ I1 r r1 q1) fun z s2 ⟨zv, H2, I2, r2, q2⟩ => ?_
    exact store_ok I2 hN hi hx r2 (fun s3 I3 => ⟨_, H2, I3, q2⟩) hf
  rcases l with ⟨hk, hm⟩ | ⟨hk, c, hc, hcell⟩
  · exact wpAny_loadName_local I.ok.kind hk hn hm go
  · rcases hk with hk | hk
    · exact wpAny_loadName_cell I.ok.kind hk hc hcell go
    · rcases hx with k | k
      · have : X.env.scope.names.lookup x = some .free := hk
        rw [k] at this; cases this
      · have : X.env.scope.names.lookup x = some .free := hk
        rw [k] at this; cases this
/-- o[i] op= e -/
def tAugS (to ti te : TE) (tget : V → V → Hp → VK → Prop) (tip : TIp) (tset : TSet) : TS := fun D σ H => to σ H fun o H1 => ti σ H1 fun i H2 => tget o i H2 fun x H3 => te σ H3 fun y H4 => tip x y H4 fun z H5 => tset o i z H5 fun H6 => D.nx σ H6
/-- o[i], by values -/
def PGet (X : Cx) (t : V → V → Hp → VK → Prop) : Prop :=
  ∀ (pins : List (Addr × Obj)) (s : Shared) (σ : St) (H : Hp) (o i : V) (ov iv : Value) (Q : VK), Inv X pins σ H s → RelV o ov → RelV i iv → t o i H Q →
    wpAny (model X.prog X.w) X.A (getItem ov iv) (EP X pins σ Q) X.xe s
theorem ps_augS {o i e : Expr} {to ti te : TE} {tget : V → V → Hp → VK → Prop} {tip : TIp} {tset : TSet} {op : Operator} {tpos : Pos} (ho : PE X o to) (hi : PE X i ti) (hg : PGet X tget) (he : PE X e te) (hp : PIp X op tip) (hs : PSet X tset)
    (ha : ∀ ov iv new, augStore i ov iv new = (do holding [new, ov, iv] (setItem ov iv new); release [new, ov, iv] []; pure .next) := by intros; rfl) : PS X (.AugAssign (.Subscript o i tpos) op e pos) (tAugS to ti te tget tip tset) := by
  intro pins s σ H D I h
  refine wpAny_AugAssign_SubscriptAny (thn (ho pins s σ H _ I h) fun ov s1 ⟨x1, H1, I1, r1, q1⟩ => ?_) ha
  refine thn (hi pins s1 σ H1 _ I1 q1) fun iv s2 ⟨x2, H2, I2, r2, q2⟩ => ?_
  refine thn (hg pins s2 σ H2 x1 x2 ov iv _ I2 r1 r2 q2) fun old s3 ⟨x3, H3, I3, r3, q3⟩ => ?_
  refine thn (he pins s3 σ H3 _ I3 q3) fun v s4 ⟨x4, H4, I4, r4, q4⟩ => ?_
  refine thn (hp pins s4 σ H4 x3 x4 old v _ I4 r3 r4 q4) fun new s5 ⟨x5, H5, I5, r5, q5⟩ => ?_
  exact thn (hs pins s5 σ H5 x1 x2 x5 ov iv new _ I5 r1 r2 r5 q5) fun _ s6 ⟨H6, I6, q6⟩ => ⟨σ, H6, I6, q6⟩
/-- ints -/
def ipI (f : Int → Int → Int) : TIp := fun x y H Q => ∃ i j, x = .int i ∧ y = .int j ∧ Q (.int (f i j)) H
theorem ip_add : PIp X .Add (ipI fun i j => i + j) := by
  intro pins s σ H x y v u Q I r1 r2 h
  obtain ⟨i, j, e1, e2, q⟩ := h
  subst e1; subst e2
  obtain ⟨t, rfl⟩ := r1
  obtain ⟨t', rfl⟩ := r2
  exact iadd_int ⟨.int _, H, I.tok _, ⟨_, rfl⟩, q⟩
theorem ip_sub : PIp X .Sub (ipI fun i j => i - j) := by
  intro pins s σ H x y v u Q I r1 r2 h
  obtain ⟨i, j, e1, e2, q⟩ := h
  subst e1; subst e2
  obtain ⟨t, rfl⟩ := r1
  obtain ⟨t', rfl⟩ := r2
  exact isub_int ⟨.int _, H, I.tok _, ⟨_, rfl⟩, q⟩
end

/-! ### while -/
section
variable {X : Cx} {pos : Pos}
/-- the invariant W with its measure -/
def tWhile (c : TT) (tb : TS) : TS := fun D σ H => ∃ W : Nat → St → Hp → Prop, (∃ m, W m σ H) ∧ ∀ m σ H, W m σ H →
  c σ H fun b H1 => if b = true then ∃ N : St → Hp → Prop, (∀ σ' H', N σ' H' → ∃ m', m' < m ∧ W m' σ' H') ∧ tb { D with nx := N, ct := N, bk := D.nx } σ H1 else D.nx σ H1
theorem ps_while {c : Expr} {body : List Stmt} {tc : TT} {tb : TS} (hp : PassesOwn (model X.prog X.w) X.A X.env X.xe) (hc : PT X c tc) (hb : PSs X body tb) : PS X (.While c body [] pos) (tWhile tc tb) := by
  intro pins s σ H D I h
  obtain ⟨W, ⟨m0, w0⟩, turn⟩ := h
  refine wpAny_While (codeAny_whileLoop (fun n s' => ∃ σ' H', Inv X pins σ' H' s' ∧ W n σ' H') ?_ m0 ⟨σ, H, I, w0⟩)
  rintro n s1 ⟨σ1, H1, I1, w1⟩
  refine wpAny_passesOwn hp (thn (hc pins s1 σ1 H1 _ I1 (turn n σ1 H1 w1)) fun b s2 ⟨H2, I2, q2⟩ => ?_)
  cases b with
  | true =>
    obtain ⟨N, hN, q2⟩ := q2
    rw [if_pos rfl]
    refine wpAny_passesOwn hp (thn (hb pins s2 σ1 H2 _ I2 q2) fun f s3 q3 => ?_)
    cases f with
    | next =>
      obtain ⟨σ3, H3, I3, n3⟩ := q3
      obtain ⟨m', hm, w3⟩ := hN σ3 H3 n3
      exact ⟨m', hm, σ3, H3, I3, w3⟩
    | cont =>
      obtain ⟨σ3, H3, I3, n3⟩ := q3
      obtain ⟨m', hm, w3⟩ := hN σ3 H3 n3
      exact ⟨m', hm, σ3, H3, I3, w3⟩
    | brk => exact q3
    | ret v => exact q3
  | false =>
    rw [if_neg Bool.false_ne_true]
    exact wpAny_execs_nil ⟨σ1, H2, I2, q2⟩
end

/-! ### what a loop or a comprehension walks -/
/-- at turn i: it yields x (the heap may grow), or it stops -/
structure It where
  go : Nat → Hp → Prop
  yld : Nat → Hp → V → Hp → Prop
  stop : Nat → Hp → Prop
/-- the iterator's own objects may turn: they are not the frame's, not pinned, younger than the entry (or a comprehension's own) -/
def FpOk (X : Cx) (pins : List (Addr × Obj)) (H : Hp) (b : Addr) : Prop :=
  H b = none ∧ b ≠ X.env.locals ∧ b ∉ X.fs ∧ (b ∈ X.ex ∨ X.s₀.heap.objs.size ≤ b) ∧ (∀ x c, X.env.cells.lookup x = some c → c ≠ b) ∧ ∀ p ∈ X.pn ++ pins, p.1 ≠ b
theorem Inv.fpOk {X : Cx} {pins : List (Addr × Obj)} {σ : St} {H H' : Hp} {s : Shared} {b : Addr} (I : Inv X pins σ H s) (hb : s.heap.objs.size ≤ b) (hn : H' b = none) : FpOk X pins H' b := by
  refine ⟨hn, Nat.ne_of_gt (Nat.lt_of_lt_of_le I.lt hb), I.nofs hb, .inr (Nat.le_trans I.sz hb), fun x c e z => ?_, fun p hp z => ?_⟩
  · obtain ⟨v, q⟩ := I.cell x c e
    exact absurd (Nat.lt_of_lt_of_le q.lt (by rw [z]; exact hb)) (Nat.lt_irrefl _)
  · exact absurd (Nat.lt_of_lt_of_le (Heap.lt_size (I.pin p hp).1) (by rw [z]; exact hb)) (Nat.lt_irrefl _)
structure Turn (P : Program) (w : World) (K : PySem.W.Frag) (tg : Expr) (J : It) (fp : List Addr) (it : Addr) (tn : Nat → Heap → Prop) : Prop where
  mem : it ∈ fp
  obj : ∀ i h, tn i h → ∀ b ∈ fp, ∃ o, h.get? b = some o ∧ ∀ v, o.data ≠ .cell v
  keep : ∀ i h h', tn i h → (∀ b ∈ fp, ∀ o, h.get? b = some o → h'.get? b = some o) → tn i h'
  item : ∀ (X : Cx), X.prog = P → X.w = w → X.K = K → X.calm = true → ∀ (i : Nat) (pins : List (Addr × Obj)) (s : Shared) (σ : St) (H : Hp) (E : Value → Shared → Prop), Inv X pins σ H s → (∀ b ∈ fp, FpOk X pins H b) → tn i s.heap → J.go i H →
    wpAny (model P w) X.A (pyNext (.ref it)) (fun r s1 => ∃ u, r = some u ∧
      wpAny (model P w) X.A (letOwnedTupleGo tg (.ref it) u) (fun _ s2 => ∃ x H', Inv X pins σ H' s2 ∧ RelV x u ∧ J.yld i H x H' ∧ tn (i + 1) s2.heap ∧ ∀ b ∈ fp, H' b = none) E s1) E s
  done : ∀ (X : Cx), X.prog = P → X.w = w → X.K = K → X.calm = true → ∀ (i : Nat) (pins : List (Addr × Obj)) (s : Shared) (σ : St) (H : Hp) (E : Value → Shared → Prop), Inv X pins σ H s → (∀ b ∈ fp, FpOk X pins H b) → tn i s.heap → J.stop i H →
    wpAny (model P w) X.A (pyNext (.ref it)) (fun r s1 => r = none ∧ Inv X pins σ H s1) E s
  self : ∀ (A : Around) (i : Nat) (s : Shared) (Q : Value → Shared → Prop) (E : Value → Shared → Prop), tn i s.heap → Q (.ref it) s → wpAny (model P w) A (pyIter (.ref it)) Q E s
abbrev TI := St → Hp → (It → Hp → Prop) → Prop
/-- an iterator has come -/
def PIE (X : Cx) (pins : List (Addr × Obj)) (σ : St) (tg : Expr) (R : It → Hp → Prop) (itv : Value) (s2 : Shared) : Prop :=
  ∃ (it : Addr) (fp : List Addr) (tn : Nat → Heap → Prop) (J : It) (H' : Hp), itv = .ref it ∧ Inv X pins σ H' s2 ∧ Turn X.prog X.w X.K tg J fp it tn ∧ tn 0 s2.heap ∧ (∀ b ∈ fp, FpOk X pins H' b) ∧ R J H'
def PI (X : Cx) (tg iter : Expr) (wi : TI) : Prop :=
  ∀ (pins : List (Addr × Obj)) (s : Shared) (σ : St) (H : Hp) (R : It → Hp → Prop), Inv X pins σ H s → wi σ H R →
    wpAny (model X.prog X.w) X.A (eval iter X.env) (fun v s1 => wpAny (model X.prog X.w) X.A (pyIter v) (PIE X pins σ tg R) X.xe s1) X.xe s

/-- the step ahead of the store is nothing for an iterator that keeps no tuple -/
theorem go_of {M : Model} {A : Around} {E : Value → Shared → Prop} {s : Shared} {tg : Expr} {it : Addr} {u : Value} {o : Obj} {n : String} {vs : Array Value} {Q : Unit → Shared → Prop} (ho : s.heap.get? it = some o) (hc : o.cls = .type n) (hd : o.data = .fields vs)
    (hn : ["enumerate", "zip", "dict_itemiterator", "dict_reverseitemiterator", "odict_iterator", "itertools.zip_longest", "itertools.pairwise"].contains n = false) (hQ : Q () s) : wpAny M A (letOwnedTupleGo tg (.ref it) u) Q E s := by
  unfold letOwnedTupleGo
  cases tg <;> first
    | exact wpAny_pure hQ
    | (cases u <;> first
        | exact wpAny_pure hQ
        | (refine wpAny_bind (wpAny_load ho ?_)
           rw [hc, hd]
           show wpAny M A (if (["enumerate", "zip", "dict_itemiterator", "dict_reverseitemiterator", "odict_iterator", "itertools.zip_longest", "itertools.pairwise"].contains n && vs[0]? == some (rawInt _)) = true then _ else _) Q E s
           rw [if_neg (by intro h; rw [hn, Bool.false_and] at h; cases h)]
           exact wpAny_pure hQ))

/-- the list at a, as it stands at each turn (a loop may append to it) -/
def Itl (K : PySem.W.Frag) (a : Addr) : It :=
  ⟨fun i H => ∃ xs x, SqL K H a xs ∧ xs[i]? = some x, fun i H x H' => H' = H ∧ ∀ xs, SqL K H a xs → xs[i]? = some x, fun i H => ∃ xs, SqL K H a xs ∧ xs.length ≤ i⟩
def Itt (K : PySem.W.Frag) (a : Addr) : It :=
  ⟨fun i H => ∃ xs x, SqT K H a xs ∧ xs[i]? = some x, fun i H x H' => H' = H ∧ ∀ xs, SqT K H a xs → xs[i]? = some x, fun i H => ∃ xs, SqT K H a xs ∧ xs.length ≤ i⟩
/-- lo, lo + 1, .. (n of them) -/
def Itr (lo : Int) (n : Nat) : It := ⟨fun i _ => i < n, fun i H x H' => H' = H ∧ x = .int (lo + i), fun i _ => n ≤ i⟩
theorem turn_list {P : Program} {w : World} {K : PySem.W.Frag} {tg : Expr} (a it : Addr) : Turn P w K tg (Itl K a) [it] it (fun i h => h.IsListIter it a i) where
  mem := by simp
  obj := fun i h st b hb => by
    have e : b = it := by simpa using hb
    subst e
    obtain ⟨o, e, c, d⟩ := st
    exact ⟨o, e, fun v z => by rw [d] at z; cases z⟩
  keep := fun i h h' st k => st.at fun o e => k it (by simp) o e
  item := by
    intro X hP hw hK hc i pins s σ H E I hf st hg
    subst hP hw hK
    obtain ⟨xs, x, hq, hx⟩ := hg
    obtain ⟨its, rv, p, hz⟩ := I.list hq
    obtain ⟨u, hu, ru⟩ := rv.get hx
    obtain ⟨f0, f1, f2, f3, f4, f5⟩ := hf it (by simp)
    refine wpAny_pyNext_list_item st p.isList (x := u) (by simpa using hu) fun h' st' sb => ?_
    have I1 : Inv X pins σ H { s with heap := h' } := I.turned (t' := s.toks) (fun b o hb e => (sb.2 b hb).trans e) f0 f1 f3 f4 f5
    obtain ⟨o, e, c, d⟩ := id st'
    exact ⟨u, rfl, go_of (s := { s with heap := h' }) e c d (by decide) ⟨x, H, I1, ru, ⟨rfl, fun ys hy => by rw [I.list_inj hy hq]; exact hx⟩, st', fun b hb => (hf b hb).1⟩⟩
  done := by
    intro X hP hw hK hc i pins s σ H E I hf st hg
    subst hP hw hK
    obtain ⟨xs, hq, hx⟩ := hg
    obtain ⟨its, rv, p, hz⟩ := I.list hq
    obtain ⟨f0, f1, f2, f3, f4, f5⟩ := hf it (by simp)
    have hl := rv.length
    exact wpAny_pyNext_list_end (I.ok.hd hc) st p.isList (by simp; omega) fun h' eb => ⟨rfl, I.turned (t' := s.toks) (fun b o hb e => eb b o hb e) f0 f1 f3 f4 f5⟩
  self := fun _ _ _ _ _ st h => wpAny_pyIter_listiter st h
theorem turn_tuple {P : Program} {w : World} {K : PySem.W.Frag} {tg : Expr} (a it : Addr) : Turn P w K tg (Itt K a) [it] it (fun i h => h.IsTupleIter it a i) where
  mem := by simp
  obj := fun i h st b hb => by
    have e : b = it := by simpa using hb
    subst e
    obtain ⟨o, e, c, d⟩ := st
    exact ⟨o, e, fun v z => by rw [d] at z; cases z⟩
  keep := fun i h h' st k => st.at fun o e => k it (by simp) o e
  item := by
    intro X hP hw hK hc i pins s σ H E I hf st hg
    subst hP hw hK
    obtain ⟨xs, x, hq, hx⟩ := hg
    obtain ⟨its, rv, p, hz⟩ := I.tuple hq
    obtain ⟨u, hu, ru⟩ := rv.get hx
    obtain ⟨f0, f1, f2, f3, f4, f5⟩ := hf it (by simp)
    refine wpAny_pyNext_tuple_item st (show s.heap.IsTuple a its.toArray from p) (x := u) (by simpa using hu) fun h' st' sb => ?_
    have I1 : Inv X pins σ H { s with heap := h' } := I.turned (t' := s.toks) (fun b o hb e => (sb.2 b hb).trans e) f0 f1 f3 f4 f5
    obtain ⟨o, e, c, d⟩ := id st'
    exact ⟨u, rfl, go_of (s := { s with heap := h' }) e c d (by decide) ⟨x, H, I1, ru, ⟨rfl, fun ys hy => by rw [I.tuple_inj hy hq]; exact hx⟩, st', fun b hb => (hf b hb).1⟩⟩
  done := by
    intro X hP hw hK hc i pins s σ H E I hf st hg
    subst hP hw hK
    obtain ⟨xs, hq, hx⟩ := hg
    obtain ⟨its, rv, p, hz⟩ := I.tuple hq
    obtain ⟨f0, f1, f2, f3, f4, f5⟩ := hf it (by simp)
    have hl := rv.length
    exact wpAny_pyNext_tuple_end (I.ok.hd hc) st (show s.heap.IsTuple a its.toArray from p) (by simp; omega) fun h' eb => ⟨rfl, I.turned (t' := s.toks) (fun b o hb e => eb b o hb e) f0 f1 f3 f4 f5⟩
  self := fun _ _ _ _ _ st h => wpAny_pyIter_tupleiter st h
theorem turn_range {P : Program} {w : World} {K : PySem.W.Frag} {tg : Expr} (it : Addr) (lo : Int) (n : Nat) : Turn P w K tg (Itr lo n) [it] it (fun i h => IsRangeIter h it (lo + (i : Nat) * 1) ((n : Int) - (i : Nat)) 1) where
  mem := by simp
  obj := fun i h st b hb => by
    have e : b = it := by simpa using hb
    subst e
    exact ⟨_, st, fun v z => by
      have z' : Data.fields _ = Data.cell v := z
      cases z'⟩
  keep := fun i h h' st k => k it (by simp) _ st
  item := by
    intro X hP hw hK hc i pins s σ H E I hf st hg
    subst hP hw hK
    obtain ⟨f0, f1, f2, f3, f4, f5⟩ := hf it (by simp)
    have W := Walks.range (prog := X.prog) (w := X.w) (I.ok.hd hc) it lo 1 n
    refine W.item i s _ _ hg st fun v h' tk hv st' kk => ?_
    obtain ⟨t, rfl⟩ := hv
    have I1 : Inv X pins σ H { s with heap := h', toks := tk } := I.turned (fun b o hb e => kk b o (by simpa using hb) e) f0 f1 f3 f4 f5
    refine ⟨_, rfl, go_of (s := { s with heap := h', toks := tk }) (n := "range_iterator") st' rfl rfl (by decide) ⟨.int (lo + i), H, I1, ⟨t, ?_⟩, ⟨rfl, rfl⟩, st', fun b hb => (hf b hb).1⟩⟩
    rw [Int.mul_one]
  done := by
    intro X hP hw hK hc i pins s σ H E I hf st hg
    subst hP hw hK
    obtain ⟨f0, f1, f2, f3, f4, f5⟩ := hf it (by simp)
    exact wpAny_pyNext_range_end (I.ok.hd hc) st (by have : n ≤ i := hg; omega) fun h' eb => ⟨rfl, I.turned (t' := s.toks) (fun b o hb e => eb b o hb e) f0 f1 f3 f4 f5⟩
  self := fun _ _ _ _ _ st h => wpAny_pyIter_rangeiter st h
end L2

namespace L2
open PySem PySem.Spec PyProof.Rows
section
variable {X : Cx} {tg : Expr}
def iList (K : PySem.W.Frag) (tl : TE) : TI := fun σ H R => tl σ H fun x H1 => ∃ a, x = .ref a ∧ (∃ xs, SqL K H1 a xs) ∧ R (Itl K a) H1
def iTup (K : PySem.W.Frag) (tl : TE) : TI := fun σ H R => tl σ H fun x H1 => ∃ a, x = .ref a ∧ (∃ xs, SqT K H1 a xs) ∧ R (Itt K a) H1
theorem pi_list {l : Expr} {tl : TE} (hl : PE X l tl) : PI X tg l (iList X.K tl) := by
  intro pins s σ H R I h
  refine thn (hl pins s σ H _ I h) fun v s1 ⟨x, H1, I1, r1, q1⟩ => ?_
  obtain ⟨a, e, ⟨xs, hq⟩, q⟩ := q1
  subst e
  cases r1
  obtain ⟨its, rv, p, hz⟩ := I1.list hq
  refine wpAny_pyIter_list p.isList ?_
  refine ⟨s1.heap.objs.size, [s1.heap.objs.size], _, _, H1, rfl, I1.kept (t' := s1.toks) fun b o e => Heap.get?_push_of_some _ e, turn_list a _, ⟨_, Heap.get?_push_size _ rfl, rfl, rfl⟩, fun b hb => ?_, q⟩
  have e : b = s1.heap.objs.size := by simpa using hb
  subst e
  exact I1.fpOk (Nat.le_refl _) (I1.hok.fresh (Nat.le_refl _))
theorem pi_tup {l : Expr} {tl : TE} (hl : PE X l tl) : PI X tg l (iTup X.K tl) := by
  intro pins s σ H R I h
  refine thn (hl pins s σ H _ I h) fun v s1 ⟨x, H1, I1, r1, q1⟩ => ?_
  obtain ⟨a, e, ⟨xs, hq⟩, q⟩ := q1
  subst e
  cases r1
  obtain ⟨its, rv, p, hz⟩ := I1.tuple hq
  refine wpAny_pyIter_tuple (show s1.heap.IsTuple a its.toArray from p) ?_
  refine ⟨s1.heap.objs.size, [s1.heap.objs.size], _, _, H1, rfl, I1.kept (t' := s1.toks) fun b o e => Heap.get?_push_of_some _ e, turn_tuple a _, ⟨_, Heap.get?_push_size _ rfl, rfl, rfl⟩, fun b hb => ?_, q⟩
  have e : b = s1.heap.objs.size := by simpa using hb
  subst e
  exact I1.fpOk (Nat.le_refl _) (I1.hok.fresh (Nat.le_refl _))
/-- a range object just made, walked -/
theorem range_it {pins : List (Addr × Obj)} {σ : St} {H : Hp} {s : Shared} {R : It → Hp → Prop} {E : Value → Shared → Prop} {lo hi : Int} {t u v : Tok} {tk : Nat} (I : Inv X pins σ H s) (h1 : -(2 ^ 62) ≤ lo) (h2 : lo < 2 ^ 62) (h3 : -(2 ^ 62) ≤ hi) (h4 : hi < 2 ^ 62)
    (q : R (Itr lo (hi - lo).toNat) H) : wpAny (model X.prog X.w) X.A (pyIter (.ref s.heap.objs.size)) (PIE X pins σ tg R) E { s with heap := s.heap.push { cls := .type "range", data := .fields #[.int lo t, .int hi u, .int 1 v] }, toks := tk } := by
  refine wpAny_pyIter_range (IsRange.new ..) (small_one h1 h2 h3 h4) ?_
  have I1 : Inv X pins σ H { s with heap := s.heap.push { cls := .type "range", data := .fields #[.int lo t, .int hi u, .int 1 v] }, toks := tk } := I.kept fun b o e => Heap.get?_push_of_some _ e
  refine ⟨(s.heap.push { cls := .type "range", data := .fields #[.int lo t, .int hi u, .int 1 v] }).objs.size, [(s.heap.push { cls := .type "range", data := .fields #[.int lo t, .int hi u, .int 1 v] }).objs.size], _, _, H, rfl,
    I1.kept (t' := tk) fun b o e => Heap.get?_push_of_some _ e, turn_range _ lo (hi - lo).toNat, ?_, fun b hb => ?_, q⟩
  · have e1 : lo + ((0 : Nat) : Int) * 1 = lo := by simp
    have e2 : (((hi - lo).toNat : Nat) : Int) - ((0 : Nat) : Int) = Builtin.Range.rangeSize lo hi 1 := by rw [rangeSize_one]; split <;> omega
    show IsRangeIter _ _ (lo + ((0 : Nat) : Int) * 1) ((((hi - lo).toNat : Nat) : Int) - ((0 : Nat) : Int)) 1
    rw [e1, e2]
    exact Heap.get?_push_size _ rfl
  · have e : b = (s.heap.push { cls := .type "range", data := .fields #[.int lo t, .int hi u, .int 1 v] }).objs.size := by simpa using hb
    subst e
    exact I1.fpOk (Nat.le_refl _) (I1.hok.fresh (Nat.le_refl _))
def iRng1 (ta : TA) : TI := fun σ H R => ta σ H fun vs H1 => ∃ j : Int, vs = [.int j] ∧ -(2 ^ 62) ≤ j ∧ j < 2 ^ 62 ∧ R (Itr 0 j.toNat) H1
def iRng2 (ta : TA) : TI := fun σ H R => ta σ H fun vs H1 => ∃ i j : Int, vs = [.int i, .int j] ∧ (-(2 ^ 62) ≤ i ∧ i < 2 ^ 62 ∧ -(2 ^ 62) ≤ j ∧ j < 2 ^ 62) ∧ R (Itr i (j - i).toNat) H1
theorem pi_range1 {a : Expr} {ta : TA} {p pos : Pos} (hg : Gl X "range") (hm : X.mg "range" = none) (ha : PA X [a] ta) (hs : starEach [a] X.env = [(false, eval a X.env)] := by rfl) : PI X tg (.Call (.Name "range" p) [a] [] pos) (iRng1 ta) := by
  intro pins s σ H R I h
  refine Call_ (ld_blt I hg hm boot_range (PyProof.Rows.callWith_type1 (thn (ha pos pins s σ H _ I h) fun us s1 ⟨vs, H1, I1, r1, q1⟩ => ?_) hs rfl))
  obtain ⟨j, e, q1, q2, q⟩ := q1
  subst e
  cases r1 with
  | cons r rr =>
    cases rr
    obtain ⟨t, rfl⟩ := r
    exact call_range_1 (range_it I1 (by omega) (by omega) q1 q2 (by simpa using q))
theorem pi_range2 {a b : Expr} {ta : TA} {p pos : Pos} (hg : Gl X "range") (hm : X.mg "range" = none) (ha : PA X [a, b] ta) (hs : starEach [a, b] X.env = [(false, eval a X.env), (false, eval b X.env)] := by rfl) (hs2 : starEach [b] X.env = [(false, eval b X.env)] := by rfl) :
    PI X tg (.Call (.Name "range" p) [a, b] [] pos) (iRng2 ta) := by
  intro pins s σ H R I h
  refine Call_ (ld_blt I hg hm boot_range (PyProof.Rows.callWith_type1 (thn (ha pos pins s σ H _ I h) fun us s1 ⟨vs, H1, I1, r1, q1⟩ => ?_) (by rw [hs, hs2]) (by rw [hs2]; rfl)))
  obtain ⟨i, j, e, ⟨q1, q2, q3, q4⟩, q⟩ := q1
  subst e
  cases r1 with
  | cons r rr =>
    cases rr with
    | cons r' rr =>
      cases rr
      obtain ⟨t, rfl⟩ := r
      obtain ⟨t', rfl⟩ := r'
      exact call_range_2 (range_it I1 q1 q2 q3 q4 q)

/-! ### for -/
/-- W: the invariant by the turn and a measure; N: what the body is to reach -/
def tFor (wi : TI) (g : TG) (tb : TS) : TS := fun D σ H => wi σ H fun J H1 => ∃ W : Nat → Nat → St → Hp → Prop, (∃ m, W 0 m σ H1) ∧ ∀ i m σ H, W i m σ H →
  (J.stop i H ∧ D.nx σ H) ∨ (J.go i H ∧ ∃ N : St → Hp → Prop, (∀ σ' H', N σ' H' → ∃ m', m' < m ∧ W (i + 1) m' σ' H') ∧ ∀ x H', J.yld i H x H' → g x σ H' fun σ2 H2 => tb { D with nx := N, ct := N, bk := D.nx } σ2 H2)
/-- the records at fp as they stand -/
def pinsAt (fp : List Addr) (h : Heap) : List (Addr × Obj) := fp.filterMap fun b => (h.get? b).map fun o => (b, o)
theorem mem_pinsAt {fp : List Addr} {h : Heap} {b : Addr} {o : Obj} (hb : b ∈ fp) (e : h.get? b = some o) : (b, o) ∈ pinsAt fp h := List.mem_filterMap.mpr ⟨b, hb, by rw [e]; rfl⟩
theorem of_pinsAt {fp : List Addr} {h : Heap} {p : Addr × Obj} (hp : p ∈ pinsAt fp h) : p.1 ∈ fp ∧ h.get? p.1 = some p.2 := by
  obtain ⟨b, hb, e⟩ := List.mem_filterMap.mp hp
  cases q : h.get? b with
  | none => rw [q] at e; cases e
  | some o =>
    rw [q] at e
    have e' : (b, o) = p := Option.some.inj e
    subst e'
    exact ⟨hb, q⟩
theorem Inv.pinned {pins : List (Addr × Obj)} {σ : St} {H : Hp} {s : Shared} {fp : List Addr} (I : Inv X pins σ H s) (hf : ∀ b ∈ fp, FpOk X pins H b) (ho : ∀ b ∈ fp, ∃ o, s.heap.get? b = some o ∧ ∀ v, o.data ≠ .cell v) : Inv X (pins ++ pinsAt fp s.heap) σ H s :=
  I.pins_of fun p hp => (List.mem_append.mp hp).elim (fun z => I.pin p (List.mem_append_right _ z)) fun z => by
    obtain ⟨hb, e⟩ := of_pinsAt z
    obtain ⟨f0, f1, f2, _⟩ := hf p.1 hb
    obtain ⟨o, e', d⟩ := ho p.1 hb
    rw [e] at e'; cases e'
    exact ⟨e, f0, f1, f2, d⟩
theorem Inv.unpinned {pins pl : List (Addr × Obj)} {σ : St} {H : Hp} {s : Shared} (I : Inv X (pins ++ pl) σ H s) : Inv X pins σ H s := I.pins_of fun p hp => I.pin p (List.mem_append_right _ (List.mem_append_left _ hp))
theorem ps_for {iter : Expr} {body : List Stmt} {wi : TI} {g : TG} {tb : TS} {pos : Pos} (hp : PassesOwn (model X.prog X.w) X.A X.env X.xe) (hc : X.calm = true) (hi : PI X tg iter wi) (hg : PG X tg g) (hb : PSs X body tb)
    (hs : ∀ x, foldedSetIterable iter X.env x = pure x := by intro _; rfl) : PS X (.For tg iter body [] pos) (tFor wi g tb) := by
  intro pins s σ H D I h
  refine wpAny_For (thn (hi pins s σ H _ I h) fun v s1 h1 => thn h1 fun itv s2 h2 => ?_) hs
  obtain ⟨it, fp, tn, J, H2, e, I2, T, st2, f2, W, ⟨m0, w0⟩, turn⟩ := h2
  subst e
  -- what stays true of the iterator's objects through the loop
  have stat : ∀ {H' : Hp}, (∀ b ∈ fp, H' b = none) → ∀ b ∈ fp, FpOk X pins H' b := fun hn b hb => ⟨hn b hb, (f2 b hb).2⟩
  refine codeAny_forLoop_any (fun n s' => ∃ i σ' H', Inv X pins σ' H' s' ∧ tn i s'.heap ∧ (∀ b ∈ fp, H' b = none) ∧ W i n σ' H') ?_ m0 ⟨0, σ, H2, I2, st2, fun b hb => (f2 b hb).1, w0⟩
  rintro n s3 ⟨i, σ3, H3, I3, st3, fr3, w3⟩
  rcases turn i n σ3 H3 w3 with ⟨stop, qn⟩ | ⟨go, N, hN, step⟩
  · refine wpAny_passesOwn hp (thn (T.done X rfl rfl rfl hc i pins s3 σ3 H3 X.xe I3 (stat fr3) st3 stop) fun r s4 ⟨hr, I4⟩ => ?_)
    subst hr
    exact wpAny_execs_nil ⟨σ3, H3, I4, qn⟩
  · refine wpAny_passesOwn hp (thn (T.item X rfl rfl rfl hc i pins s3 σ3 H3 X.xe I3 (stat fr3) st3 go) fun r s4 ⟨u, hr, h4⟩ => ?_)
    subst hr
    refine wpAny_passesOwn hp (thn h4 fun _ s5 ⟨x, H5, I5, r5, y5, st5, fr5⟩ => ?_)
    have I5' := I5.pinned (stat fr5) (T.obj _ _ st5)
    refine wpAny_passesOwn hp (thn (hg _ s5 σ3 H5 x u _ I5' r5 (step x H5 y5)) fun _ s6 ⟨σ6, H6, I6, q6⟩ => ?_)
    refine wpAny_passesOwn hp (thn (hb _ s6 σ6 H6 _ I6 q6) fun f s7 q7 => ?_)
    have again : ∀ {σ7 : St} {H7 : Hp}, Inv X (pins ++ pinsAt fp s5.heap) σ7 H7 s7 → N σ7 H7 → ∃ m, m < n ∧ ∃ i σ' H', Inv X pins σ' H' s7 ∧ tn i s7.heap ∧ (∀ b ∈ fp, H' b = none) ∧ W i m σ' H' := fun {σ7 H7} I7 n7 => by
      obtain ⟨m', hm, w7⟩ := hN σ7 H7 n7
      refine ⟨m', hm, i + 1, σ7, H7, I7.unpinned, T.keep _ _ _ st5 fun b hb o e => (I7.pin (b, o) (List.mem_append_right _ (List.mem_append_right _ (mem_pinsAt hb e)))).1, fun b hb => ?_, w7⟩
      obtain ⟨o, e, d⟩ := T.obj _ _ st5 b hb
      exact (I7.pin (b, o) (List.mem_append_right _ (List.mem_append_right _ (mem_pinsAt hb e)))).2.1
    cases f with
    | next => obtain ⟨σ7, H7, I7, n7⟩ := q7; exact again I7 n7
    | cont => obtain ⟨σ7, H7, I7, n7⟩ := q7; exact again I7 n7
    | brk => obtain ⟨σ7, H7, I7, q7⟩ := q7; exact ⟨σ7, H7, I7.unpinned, q7⟩
    | ret v => obtain ⟨x7, σ7, H7, I7, r7, q7⟩ := q7; exact ⟨x7, σ7, H7, I7.unpinned, r7, q7⟩
end

/-! ### the forms one uses -/
/-- over a list that the body leaves as it is -/
theorem for_list {K : PySem.W.Frag} {a : Addr} {xs : List V} {g : TG} {tb : TS} {D : Ends} {σ : St} {H : Hp} (Pv : Nat → St → Hp → Prop) (h0 : Pv 0 σ H) (hl : ∀ i σ H, i ≤ xs.length → Pv i σ H → SqL K H a xs)
    (hs : ∀ i x σ H, xs[i]? = some x → Pv i σ H → g x σ H fun σ2 H2 => tb { D with nx := Pv (i + 1), ct := Pv (i + 1), bk := D.nx } σ2 H2) (hd : ∀ σ H, Pv xs.length σ H → D.nx σ H) :
    ∃ W : Nat → Nat → St → Hp → Prop, (∃ m, W 0 m σ H) ∧ ∀ i m σ H, W i m σ H →
      ((Itl K a).stop i H ∧ D.nx σ H) ∨ ((Itl K a).go i H ∧ ∃ N : St → Hp → Prop, (∀ σ' H', N σ' H' → ∃ m', m' < m ∧ W (i + 1) m' σ' H') ∧ ∀ x H', (Itl K a).yld i H x H' → g x σ H' fun σ2 H2 => tb { D with nx := N, ct := N, bk := D.nx } σ2 H2) := by
  refine ⟨fun i m σ H => m = xs.length - i ∧ i ≤ xs.length ∧ Pv i σ H, ⟨xs.length, by simp, Nat.zero_le _, h0⟩, ?_⟩
  rintro i m σ H ⟨rfl, hi, p⟩
  have q := hl i σ H hi p
  by_cases hlt : i < xs.length
  · refine .inr ⟨⟨xs, xs[i], q, by simp [hlt]⟩, Pv (i + 1), fun σ' H' p' => ⟨xs.length - (i + 1), by omega, rfl, hlt, p'⟩, fun x H' y => ?_⟩
    obtain ⟨e, y⟩ := y
    subst e
    exact hs i x σ _ (y xs q) p
  · have e : i = xs.length := by omega
    subst e
    exact .inl ⟨⟨xs, q, Nat.le_refl _⟩, hd σ H p⟩
theorem for_tup {K : PySem.W.Frag} {a : Addr} {xs : List V} {g : TG} {tb : TS} {D : Ends} {σ : St} {H : Hp} (Pv : Nat → St → Hp → Prop) (h0 : Pv 0 σ H) (hl : ∀ i σ H, i ≤ xs.length → Pv i σ H → SqT K H a xs)
    (hs : ∀ i x σ H, xs[i]? = some x → Pv i σ H → g x σ H fun σ2 H2 => tb { D with nx := Pv (i + 1), ct := Pv (i + 1), bk := D.nx } σ2 H2) (hd : ∀ σ H, Pv xs.length σ H → D.nx σ H) :
    ∃ W : Nat → Nat → St → Hp → Prop, (∃ m, W 0 m σ H) ∧ ∀ i m σ H, W i m σ H →
      ((Itt K a).stop i H ∧ D.nx σ H) ∨ ((Itt K a).go i H ∧ ∃ N : St → Hp → Prop, (∀ σ' H', N σ' H' → ∃ m', m' < m ∧ W (i + 1) m' σ' H') ∧ ∀ x H', (Itt K a).yld i H x H' → g x σ H' fun σ2 H2 => tb { D with nx := N, ct := N, bk := D.nx } σ2 H2) := by
  refine ⟨fun i m σ H => m = xs.length - i ∧ i ≤ xs.length ∧ Pv i σ H, ⟨xs.length, by simp, Nat.zero_le _, h0⟩, ?_⟩
  rintro i m σ H ⟨rfl, hi, p⟩
  have q := hl i σ H hi p
  by_cases hlt : i < xs.length
  · refine .inr ⟨⟨xs, xs[i], q, by simp [hlt]⟩, Pv (i + 1), fun σ' H' p' => ⟨xs.length - (i + 1), by omega, rfl, hlt, p'⟩, fun x H' y => ?_⟩
    obtain ⟨e, y⟩ := y
    subst e
    exact hs i x σ _ (y xs q) p
  · have e : i = xs.length := by omega
    subst e
    exact .inl ⟨⟨xs, q, Nat.le_refl _⟩, hd σ H p⟩
theorem for_range {lo : Int} {n : Nat} {g : TG} {tb : TS} {D : Ends} {σ : St} {H : Hp} (Pv : Nat → St → Hp → Prop) (h0 : Pv 0 σ H)
    (hs : ∀ i σ H, i < n → Pv i σ H → g (.int (lo + i)) σ H fun σ2 H2 => tb { D with nx := Pv (i + 1), ct := Pv (i + 1), bk := D.nx } σ2 H2) (hd : ∀ σ H, Pv n σ H → D.nx σ H) :
    ∃ W : Nat → Nat → St → Hp → Prop, (∃ m, W 0 m σ H) ∧ ∀ i m σ H, W i m σ H →
      ((Itr lo n).stop i H ∧ D.nx σ H) ∨ ((Itr lo n).go i H ∧ ∃ N : St → Hp → Prop, (∀ σ' H', N σ' H' → ∃ m', m' < m ∧ W (i + 1) m' σ' H') ∧ ∀ x H', (Itr lo n).yld i H x H' → g x σ H' fun σ2 H2 => tb { D with nx := N, ct := N, bk := D.nx } σ2 H2) := by
  refine ⟨fun i m σ H => m = n - i ∧ i ≤ n ∧ Pv i σ H, ⟨n, by simp, Nat.zero_le _, h0⟩, ?_⟩
  rintro i m σ H ⟨rfl, hi, p⟩
  by_cases hlt : i < n
  · refine .inr ⟨hlt, Pv (i + 1), fun σ' H' p' => ⟨n - (i + 1), by omega, rfl, hlt, p'⟩, fun x H' y => ?_⟩
    obtain ⟨e, y⟩ := y
    subst e y
    exact hs i σ _ hlt p
  · have e : i = n := by omega
    subst e
    exact .inl ⟨Nat.le_refl _, hd σ H p⟩
/-- while, by a word and a measure of the state -/
theorem while_by {c : TT} {tb : TS} {D : Ends} {σ : St} {H : Hp} (Pv : St → Hp → Prop) (μ : St → Hp → Nat) (h0 : Pv σ H)
    (hs : ∀ σ H, Pv σ H → c σ H fun b H1 => if b = true then tb { D with nx := fun σ' H' => Pv σ' H' ∧ μ σ' H' < μ σ H, ct := fun σ' H' => Pv σ' H' ∧ μ σ' H' < μ σ H, bk := D.nx } σ H1 else D.nx σ H1)
    (mono : ∀ σ H Q Q', (∀ b H1, Q b H1 → Q' b H1) → c σ H Q → c σ H Q') : tWhile c tb D σ H := by
  refine ⟨fun m σ H => m = μ σ H ∧ Pv σ H, ⟨_, rfl, h0⟩, ?_⟩
  rintro m σ H ⟨rfl, p⟩
  refine mono σ H _ _ (fun b H1 q => ?_) (hs σ H p)
  cases b with
  | true => exact ⟨_, fun σ' H' ⟨p', l⟩ => ⟨_, l, rfl, p'⟩, q⟩
  | false => exact q
end L2

namespace L2
open PySem PySem.Spec PyProof.Rows

abbrev R2 := V → V → Hp → VK → Prop
/-- a two-place operation on values: f is binaryOp op, inplaceOp op or compareOp op -/
def OpR (X : Cx) (f : Value → Value → Sem Value) (r : R2) : Prop :=
  ∀ (pins : List (Addr × Obj)) (s : Shared) (σ : St) (H : Hp) (x y : V) (v u : Value) (Q : VK), Inv X pins σ H s → RelV x v → RelV y u → r x y H Q →
    wpAny (model X.prog X.w) X.A (f v u) (EP X pins σ Q) X.xe s
/-- a one-place operation -/
def UnR (X : Cx) (f : Value → Sem Value) (r : V → Hp → VK → Prop) : Prop :=
  ∀ (pins : List (Addr × Obj)) (s : Shared) (σ : St) (H : Hp) (x : V) (v : Value) (Q : VK), Inv X pins σ H s → RelV x v → r x H Q →
    wpAny (model X.prog X.w) X.A (f v) (EP X pins σ Q) X.xe s
/-- a call of a value that is known (a builtin, a type) with values -/
def CallR (X : Cx) (f : Value) (r : List V → Hp → VK → Prop) : Prop :=
  ∀ (pins : List (Addr × Obj)) (s : Shared) (σ : St) (H : Hp) (xs : List V) (us : List Value) (Q : VK), Inv X pins σ H s → Vals xs us → r xs H Q →
    wpAny (model X.prog X.w) X.A (call f us) (EP X pins σ Q) X.xe s
/-- a value's truth -/
def TruR (X : Cx) (r : V → Hp → (Bool → Hp → Prop) → Prop) : Prop :=
  ∀ (pins : List (Addr × Obj)) (s : Shared) (σ : St) (H : Hp) (x : V) (v : Value) (Q : Bool → Hp → Prop), Inv X pins σ H s → RelV x v → r x H Q →
    wpAny (model X.prog X.w) X.A (truthy v) (TP X pins σ Q) X.xe s

def tOp (r : R2) (ta tb : TE) : TE := fun σ H Q => ta σ H fun x H1 => tb σ H1 fun y H2 => r x y H2 Q
def tUn (r : V → Hp → VK → Prop) (ta : TE) : TE := fun σ H Q => ta σ H fun x H1 => r x H1 Q
/-- ints in, under C, and a value out -/
def rI (C : Int → Int → Prop) (g : Int → Int → V) : R2 := fun x y H Q => ∃ i j, x = .int i ∧ y = .int j ∧ C i j ∧ Q (g i j) H
def rI0 (g : Int → Int → V) : R2 := fun x y H Q => ∃ i j, x = .int i ∧ y = .int j ∧ Q (g i j) H
def rU (g : Int → V) : V → Hp → VK → Prop := fun x H Q => ∃ i, x = .int i ∧ Q (g i) H

section
variable {X : Cx} {a b c : Expr} {ta tb tc : TE} {pos : Pos}

theorem binT (ha : PE X a ta) (hb : PE X b tb) {pins : List (Addr × Obj)} {s : Shared} {σ : St} {H : Hp} {R : V → V → Hp → Prop} (I : Inv X pins σ H s)
    (h : ta σ H fun x H1 => tb σ H1 fun y H2 => R x y H2) {Q : Value → Shared → Prop} {f : Value → Value → Sem Value}
    (hf : ∀ v u s2 x y H2, Inv X pins σ H2 s2 → RelV x v → RelV y u → R x y H2 → wpAny (model X.prog X.w) X.A (f v u) Q X.xe s2) :
    wpAny (model X.prog X.w) X.A (eval a X.env) (fun v s₁ => wpAny (model X.prog X.w) X.A (eval b X.env) (fun u s₂ => wpAny (model X.prog X.w) X.A (f v u) Q X.xe s₂) X.xe s₁) X.xe s := by
  refine thn (ha pins s σ H _ I h) fun v s1 ⟨x, H1, I1, r1, q1⟩ => ?_
  refine thn (hb pins s1 σ H1 _ I1 q1) fun u s2 ⟨y, H2, I2, r2, q2⟩ => ?_
  exact hf v u s2 x y H2 I2 r1 r2 q2

theorem pe_op {op : Operator} {r : R2} (ho : OpR X (binaryOp op) r) (ha : PE X a ta) (hb : PE X b tb) : PE X (.BinOp a op b pos) (tOp r ta tb) := by
  intro pins s σ H Q I h
  exact wpAny_BinOp (binT ha hb I h fun v u s2 x y H2 I2 rx ry q => ho pins s2 σ H2 x y v u Q I2 rx ry q)
theorem pe_un {op : UnaryOp} {r : V → Hp → VK → Prop} (ho : UnR X (unaryOp op) r) (ha : PE X a ta) : PE X (.UnaryOp op a pos) (tUn r ta) := by
  intro pins s σ H Q I h
  exact UnaryOp_ (thn (ha pins s σ H _ I h) fun v s1 ⟨x, H1, I1, r1, q1⟩ => ho pins s1 σ H1 x v Q I1 r1 q1)
/-- a op= e at a name: the name's slot i -/
theorem augR {op : Operator} {r : R2} (ho : OpR X (inplaceOp op) r) {pins : List (Addr × Obj)} {s : Shared} {σ : St} {H : Hp} {x y : V} {v u : Value} {Q : VK} (I : Inv X pins σ H s)
    (rx : RelV x v) (ry : RelV y u) (q : r x y H Q) : wpAny (model X.prog X.w) X.A (inplaceOp op v u) (EP X pins σ Q) X.xe s := ho pins s σ H x y v u Q I rx ry q

/-! ### ints -/
theorem opI {f : Value → Value → Sem Value} {C : Int → Int → Prop} {g : Int → Int → Int}
    (rule : ∀ (i j : Int) (t u : Tok) (s : Shared) (Q : Value → Shared → Prop) (E : Value → Shared → Prop), C i j → Q (.int (g i j) s.toks) { s with toks := s.toks + 1 } → wpAny (model X.prog X.w) X.A (f (.int i t) (.int j u)) Q E s) :
    OpR X f (rI C fun i j => .int (g i j)) := by
  intro pins s σ H x y v u Q I rx ry h
  obtain ⟨i, j, rfl, rfl, hc, q⟩ := h
  obtain ⟨t, rfl⟩ := rx
  obtain ⟨t', rfl⟩ := ry
  exact rule i j t t' s _ _ hc ⟨.int (g i j), H, I.tok _, ⟨_, rfl⟩, q⟩
theorem opI0 {f : Value → Value → Sem Value} {g : Int → Int → Int}
    (rule : ∀ (i j : Int) (t u : Tok) (s : Shared) (Q : Value → Shared → Prop) (E : Value → Shared → Prop), Q (.int (g i j) s.toks) { s with toks := s.toks + 1 } → wpAny (model X.prog X.w) X.A (f (.int i t) (.int j u)) Q E s) :
    OpR X f (rI0 fun i j => .int (g i j)) := by
  intro pins s σ H x y v u Q I rx ry h
  obtain ⟨i, j, rfl, rfl, q⟩ := h
  obtain ⟨t, rfl⟩ := rx
  obtain ⟨t', rfl⟩ := ry
  exact rule i j t t' s _ _ ⟨.int (g i j), H, I.tok _, ⟨_, rfl⟩, q⟩
theorem opB0 {f : Value → Value → Sem Value} {g : Int → Int → Bool}
    (rule : ∀ (i j : Int) (t u : Tok) (s : Shared) (Q : Value → Shared → Prop) (E : Value → Shared → Prop), Q (.bool (g i j)) s → wpAny (model X.prog X.w) X.A (f (.int i t) (.int j u)) Q E s) :
    OpR X f (rI0 fun i j => .bl (g i j)) := by
  intro pins s σ H x y v u Q I rx ry h
  obtain ⟨i, j, rfl, rfl, q⟩ := h
  obtain ⟨t, rfl⟩ := rx
  obtain ⟨t', rfl⟩ := ry
  exact rule i j t t' s _ _ ⟨.bl (g i j), H, I, rfl, q⟩

def CDiv (i j : Int) : Prop := 0 < j ∧ j < 1073741824
def CDivN (i j : Int) : Prop := j ≠ 0 ∧ j.natAbs < 1073741824
def CPow (i j : Int) : Prop := 0 ≤ j ∧ j ≤ 1000000 ∧ i.natAbs < 2 ^ 64
def CMul (i j : Int) : Prop := (-(2 ^ 64) < i ∧ i < 2 ^ 64) ∨ (-(2 ^ 64) < j ∧ j < 2 ^ 64)
theorem CMul.ok {i j : Int} (h : CMul i j) : IntMulOk i j := by
  rcases h with ⟨h1, h2⟩ | ⟨h1, h2⟩
  · exact .of_left (intBits_le_64 h1 h2)
  · exact .of_right (intBits_le_64 h1 h2)
theorem two_pow_nn (k : Nat) : (0 : Int) ≤ 2 ^ k := by
  rw [two_pow_cast]
  exact Int.natCast_nonneg _

theorem op_add : OpR X (binaryOp .Add) (rI0 fun i j => .int (i + j)) := opI0 fun _ _ _ _ _ _ _ q => add_int q
theorem op_sub : OpR X (binaryOp .Sub) (rI0 fun i j => .int (i - j)) := opI0 fun _ _ _ _ _ _ _ q => sub_int q
theorem op_mul : OpR X (binaryOp .Mult) (rI CMul fun i j => .int (i * j)) := opI fun _ _ _ _ _ _ _ hc q => mul_int q hc.ok
/-- // by a positive divisor -/
theorem op_fdiv : OpR X (binaryOp .FloorDiv) (rI CDiv fun i j => .int (i / j)) := opI fun i j _ _ _ _ _ hc q => by
  have h1 : (0 : Int) < j := hc.1
  have h2 : j < 1073741824 := hc.2
  exact floordiv_int (by omega) (by rw [Int.fdiv_eq_ediv_of_nonneg i (by omega)]; exact q) (.inl (PyProof.noPylong_small (by omega)))
theorem op_fdivN : OpR X (binaryOp .FloorDiv) (rI CDivN fun i j => .int (i.fdiv j)) := opI fun _ _ _ _ _ _ _ hc q => floordiv_int hc.1 q (.inl (PyProof.noPylong_small hc.2))
/-- % by a positive divisor of any size -/
theorem op_mod : OpR X (binaryOp .Mod) (rI (fun _ j => 0 < j) fun i j => .int (i % j)) := opI fun i j _ _ _ _ _ hc q => by
  have h1 : (0 : Int) < j := hc
  exact mod_int' (by omega) (by rw [Int.fmod_eq_emod_of_nonneg i (by omega)]; exact q)
theorem op_modN : OpR X (binaryOp .Mod) (rI (fun _ j => j ≠ 0) fun i j => .int (i.fmod j)) := opI fun _ _ _ _ _ _ _ hc q => mod_int' hc q
theorem op_pow : OpR X (binaryOp .Pow) (rI CPow fun i j => .int (i ^ j.toNat)) := opI fun _ _ _ _ _ _ _ hc q => pow_int_small hc.1 hc.2.1 hc.2.2 q
theorem op_shl : OpR X (binaryOp .LShift) (rI CPow fun i j => .int (i * 2 ^ j.toNat)) := opI fun _ _ _ _ _ _ _ hc q => lshift_int_small hc.1 hc.2.1 hc.2.2 q
theorem op_shr : OpR X (binaryOp .RShift) (rI (fun _ j => 0 ≤ j) fun i j => .int (i / 2 ^ j.toNat)) := opI fun i j _ _ _ _ _ hc q =>
  rshift_int hc (by rw [Int.fdiv_eq_ediv_of_nonneg i (two_pow_nn _)]; exact q)
theorem op_and : OpR X (binaryOp .BitAnd) (rI0 fun i j => .int (Builtin.bitAnd i j)) := opI0 fun _ _ _ _ _ _ _ q => and_int q
theorem op_or : OpR X (binaryOp .BitOr) (rI0 fun i j => .int (Builtin.bitOr i j)) := opI0 fun _ _ _ _ _ _ _ q => or_int q
theorem op_xor : OpR X (binaryOp .BitXor) (rI0 fun i j => .int (Builtin.bitXor i j)) := opI0 fun _ _ _ _ _ _ _ q => xor_int q

theorem iop_add : OpR X (inplaceOp .Add) (rI0 fun i j => .int (i + j)) := opI0 fun _ _ _ _ _ _ _ q => iadd_int q
theorem iop_sub : OpR X (inplaceOp .Sub) (rI0 fun i j => .int (i - j)) := opI0 fun _ _ _ _ _ _ _ q => isub_int q
theorem iop_mul : OpR X (inplaceOp .Mult) (rI CMul fun i j => .int (i * j)) := opI fun _ _ _ _ _ _ _ hc q => imul_int q hc.ok
theorem iop_fdiv : OpR X (inplaceOp .FloorDiv) (rI CDiv fun i j => .int (i / j)) := opI fun i j _ _ _ _ _ hc q => by
  have h1 : (0 : Int) < j := hc.1
  have h2 : j < 1073741824 := hc.2
  exact ifloordiv_int (by omega) (by rw [Int.fdiv_eq_ediv_of_nonneg i (by omega)]; exact q) (.inl (PyProof.noPylong_small (by omega)))
theorem iop_mod : OpR X (inplaceOp .Mod) (rI (fun _ j => 0 < j) fun i j => .int (i % j)) := opI fun i j _ _ _ _ _ hc q => by
  have h1 : (0 : Int) < j := hc
  exact imod_int (by omega) (by rw [Int.fmod_eq_emod_of_nonneg i (by omega)]; exact q)
theorem iop_shl : OpR X (inplaceOp .LShift) (rI CPow fun i j => .int (i * 2 ^ j.toNat)) := opI fun _ _ _ _ _ _ _ hc q => ilshift_int_small hc.1 hc.2.1 hc.2.2 q
theorem iop_shr : OpR X (inplaceOp .RShift) (rI (fun _ j => 0 ≤ j) fun i j => .int (i / 2 ^ j.toNat)) := opI fun i j _ _ _ _ _ hc q =>
  irshift_int hc (by rw [Int.fdiv_eq_ediv_of_nonneg i (two_pow_nn _)]; exact q)
theorem iop_and : OpR X (inplaceOp .BitAnd) (rI0 fun i j => .int (Builtin.bitAnd i j)) := opI0 fun _ _ _ _ _ _ _ q => iand_int q
theorem iop_or : OpR X (inplaceOp .BitOr) (rI0 fun i j => .int (Builtin.bitOr i j)) := opI0 fun _ _ _ _ _ _ _ q => ior_int q
theorem iop_xor : OpR X (inplaceOp .BitXor) (rI0 fun i j => .int (Builtin.bitXor i j)) := opI0 fun _ _ _ _ _ _ _ q => ixor_int q

theorem unI {f : Value → Sem Value} {g : Int → Int}
    (rule : ∀ (i : Int) (t : Tok) (s : Shared) (Q : Value → Shared → Prop) (E : Value → Shared → Prop), Q (.int (g i) s.toks) { s with toks := s.toks + 1 } → wpAny (model X.prog X.w) X.A (f (.int i t)) Q E s) :
    UnR X f (rU fun i => .int (g i)) := by
  intro pins s σ H x v Q I rx h
  obtain ⟨i, rfl, q⟩ := h
  obtain ⟨t, rfl⟩ := rx
  exact rule i t s _ _ ⟨.int (g i), H, I.tok _, ⟨_, rfl⟩, q⟩
theorem un_neg : UnR X (unaryOp .USub) (rU fun i => .int (-i)) := unI fun _ _ _ _ _ q => neg_int q
theorem un_inv : UnR X (unaryOp .Invert) (rU fun i => .int (Builtin.bitNot i)) := unI fun _ _ _ _ _ q => invert_int q

/-! ### bools among ints: n += (a < b) -/
theorem op_add_ib : OpR X (binaryOp .Add) (fun x y H Q => ∃ i k, x = .int i ∧ y = .bl k ∧ Q (.int (i + b2i k)) H) := by
  intro pins s σ H x y v u Q I rx ry h
  obtain ⟨i, k, rfl, rfl, q⟩ := h
  obtain ⟨t, rfl⟩ := rx
  cases ry
  exact add_int_bool ⟨.int (i + b2i k), H, I.tok _, ⟨_, rfl⟩, q⟩
end

/-! ### comparisons -/
/-- the scalars that == tells apart as data does -/
def scal : V → V → Bool
  | .non, .non => true | .non, .int _ => true | .int _, .non => true | .non, .bl _ => true | .bl _, .non => true | .non, .str _ => true | .str _, .non => true
  | .int _, .int _ => true | .bl _, .bl _ => true | .str _, .str _ => true | .byt _, .byt _ => true
  | .int _, .str _ => true | .str _, .int _ => true | .bl _, .str _ => true | .str _, .bl _ => true
  | _, _ => false
def rEq : R2 := fun x y H Q => scal x y = true ∧ Q (.bl (decide (x = y))) H
def rNe : R2 := fun x y H Q => scal x y = true ∧ Q (.bl (!decide (x = y))) H

theorem dec_int {i j : Int} : decide (V.int i = V.int j) = (i == j) := by
  rw [Bool.eq_iff_iff]
  simp
theorem dec_bl {i j : Bool} : decide (V.bl i = V.bl j) = (i == j) := by
  rw [Bool.eq_iff_iff]
  simp
theorem dec_str {i j : Str} : decide (V.str i = V.str j) = (i == j) := by
  rw [Bool.eq_iff_iff]
  simp
theorem dec_byt {i j : Array UInt8} : decide (V.byt i = V.byt j) = (i.toList == j.toList) := by
  rw [Bool.eq_iff_iff]
  cases i
  cases j
  simp

section
variable {X : Cx} {a b c : Expr} {ta tb tc : TE} {pos : Pos}
theorem fin_bl {pins : List (Addr × Obj)} {σ : St} {H : Hp} {s : Shared} {Q : VK} {k k' : Bool} (I : Inv X pins σ H s) (q : Q (.bl k) H) (e : k = k') : EP X pins σ Q (.bool k') s := by
  subst e
  exact ⟨.bl k, H, I, rfl, q⟩
theorem op_eq : OpR X (compareOp .Eq) rEq := by
  intro pins s σ H x y v u Q I rx ry h
  obtain ⟨hs, q⟩ := h
  cases x with
  | non =>
    cases rx
    cases y with
    | non => cases ry; exact PySem.EqNone.eq_none_none (fin_bl I q (by simp))
    | bl j => cases ry; exact PySem.EqNone.eq_none_bool (fin_bl I q (by simp))
    | int j => obtain ⟨t', rfl⟩ := ry; exact PySem.EqNone.eq_none_int (fin_bl I q (by simp))
    | str j => obtain ⟨t', rfl⟩ := ry; exact PySem.EqNone.eq_none_str (fin_bl I q (by simp))
    | _ => exact absurd (show false = true from hs) Bool.false_ne_true
  | bl i =>
    cases rx
    cases y with
    | non => cases ry; exact PySem.EqNone.eq_bool_none (fin_bl I q (by simp))
    | bl j => cases ry; exact eq_bool (fin_bl I q dec_bl)
    | str j => obtain ⟨t', rfl⟩ := ry; exact PySem.EqMixed.eq_bool_str (fin_bl I q (by simp))
    | _ => exact absurd (show false = true from hs) Bool.false_ne_true
  | int i =>
    obtain ⟨t, rfl⟩ := rx
    cases y with
    | non => cases ry; exact PySem.EqNone.eq_int_none (fin_bl I q (by simp))
    | int j => obtain ⟨t', rfl⟩ := ry; exact eq_int (fin_bl I q dec_int)
    | str j => obtain ⟨t', rfl⟩ := ry; exact PySem.EqMixed.eq_int_str (fin_bl I q (by simp))
    | _ => exact absurd (show false = true from hs) Bool.false_ne_true
  | str i =>
    obtain ⟨t, rfl⟩ := rx
    cases y with
    | non => cases ry; exact PySem.EqNone.eq_str_none (fin_bl I q (by simp))
    | bl j => cases ry; exact PySem.EqMixed.eq_str_bool (fin_bl I q (by simp))
    | int j => obtain ⟨t', rfl⟩ := ry; exact PySem.EqMixed.eq_str_int (fin_bl I q (by simp))
    | str j => obtain ⟨t', rfl⟩ := ry; exact eq_str (fin_bl I q dec_str)
    | _ => exact absurd (show false = true from hs) Bool.false_ne_true
  | byt i =>
    obtain ⟨t, rfl⟩ := rx
    cases y with
    | byt j => obtain ⟨t', rfl⟩ := ry; exact PySem.W.eq_bytes (fin_bl I q dec_byt)
    | _ => exact absurd (show false = true from hs) Bool.false_ne_true
  | _ => cases y <;> exact absurd (show false = true from hs) Bool.false_ne_true
theorem op_ne : OpR X (compareOp .NotEq) rNe := by
  intro pins s σ H x y v u Q I rx ry h
  obtain ⟨hs, q⟩ := h
  cases x with
  | non =>
    cases rx
    cases y with
    | non => cases ry; exact PySem.EqNone.ne_none_none (fin_bl I q (by simp))
    | bl j => cases ry; exact PySem.EqNone.ne_none_bool (fin_bl I q (by simp))
    | int j => obtain ⟨t', rfl⟩ := ry; exact PySem.EqNone.ne_none_int (fin_bl I q (by simp))
    | str j => obtain ⟨t', rfl⟩ := ry; exact PySem.EqNone.ne_none_str (fin_bl I q (by simp))
    | _ => exact absurd (show false = true from hs) Bool.false_ne_true
  | bl i =>
    cases rx
    cases y with
    | non => cases ry; exact PySem.EqNone.ne_bool_none (fin_bl I q (by simp))
    | bl j => cases ry; exact ne_bool (fin_bl I q (congrArg not dec_bl))
    | str j => obtain ⟨t', rfl⟩ := ry; exact PySem.EqMixed.ne_bool_str (fin_bl I q (by simp))
    | _ => exact absurd (show false = true from hs) Bool.false_ne_true
  | int i =>
    obtain ⟨t, rfl⟩ := rx
    cases y with
    | non => cases ry; exact PySem.EqNone.ne_int_none (fin_bl I q (by simp))
    | int j => obtain ⟨t', rfl⟩ := ry; exact ne_int (fin_bl I q (congrArg not dec_int))
    | str j => obtain ⟨t', rfl⟩ := ry; exact PySem.EqMixed.ne_int_str (fin_bl I q (by simp))
    | _ => exact absurd (show false = true from hs) Bool.false_ne_true
  | str i =>
    obtain ⟨t, rfl⟩ := rx
    cases y with
    | non => cases ry; exact PySem.EqNone.ne_str_none (fin_bl I q (by simp))
    | bl j => cases ry; exact PySem.EqMixed.ne_str_bool (fin_bl I q (by simp))
    | int j => obtain ⟨t', rfl⟩ := ry; exact PySem.EqMixed.ne_str_int (fin_bl I q (by simp))
    | str j => obtain ⟨t', rfl⟩ := ry; exact ne_str (fin_bl I q (congrArg not dec_str))
    | _ => exact absurd (show false = true from hs) Bool.false_ne_true
  | byt i =>
    obtain ⟨t, rfl⟩ := rx
    cases y with
    | byt j => obtain ⟨t', rfl⟩ := ry; exact PySem.W.ne_bytes (fin_bl I q (congrArg not dec_byt))
    | _ => exact absurd (show false = true from hs) Bool.false_ne_true
  | _ => cases y <;> exact absurd (show false = true from hs) Bool.false_ne_true

theorem op_lt : OpR X (compareOp .Lt) (rI0 fun i j => .bl (decide (i < j))) := opB0 fun _ _ _ _ _ _ _ q => lt_int q
theorem op_le : OpR X (compareOp .LtE) (rI0 fun i j => .bl (decide (i ≤ j))) := opB0 fun _ _ _ _ _ _ _ q => le_int q
theorem op_gt : OpR X (compareOp .Gt) (rI0 fun i j => .bl (decide (j < i))) := opB0 fun _ _ _ _ _ _ _ q => gt_int q
theorem op_ge : OpR X (compareOp .GtE) (rI0 fun i j => .bl (decide (j ≤ i))) := opB0 fun _ _ _ _ _ _ _ q => ge_int q
theorem op_lt_str : OpR X (compareOp .Lt) (fun x y H Q => ∃ i j, x = .str i ∧ y = .str j ∧ Q (.bl (decide (i.cps.toList < j.cps.toList))) H) := by
  intro pins s σ H x y v u Q I rx ry h
  obtain ⟨i, j, rfl, rfl, q⟩ := h
  obtain ⟨t, rfl⟩ := rx
  obtain ⟨t', rfl⟩ := ry
  exact lt_str (fin_bl I q rfl)
/-- the one string within the other -/
theorem op_in_str : OpR X (compareOp .In) (fun x y H Q => ∃ i j, x = .str i ∧ y = .str j ∧ Q (.bl (!(Builtin.Str.occurrences j i 0 j.length 1).isEmpty)) H) := by
  intro pins s σ H x y v u Q I rx ry h
  obtain ⟨i, j, rfl, rfl, q⟩ := h
  obtain ⟨t, rfl⟩ := rx
  obtain ⟨t', rfl⟩ := ry
  exact in_str (fin_bl I q rfl)

/-- is None, is not None: the right side a value none -/
theorem op_isN : OpR X (compareOp .Is) (fun x y H Q => y = .non ∧ Q (.bl (decide (x = .non))) H) := by
  intro pins s σ H x y v u Q I rx ry h
  obtain ⟨rfl, q⟩ := h
  cases ry
  refine is_none_gen (fin_bl I q ?_)
  cases x <;> first
    | (cases rx; rfl)
    | (obtain ⟨t, rfl⟩ := rx; rfl)
theorem op_notN : OpR X (compareOp .IsNot) (fun x y H Q => y = .non ∧ Q (.bl (!decide (x = .non))) H) := by
  intro pins s σ H x y v u Q I rx ry h
  obtain ⟨rfl, q⟩ := h
  cases ry
  refine isnot_none_gen (fin_bl I q ?_)
  cases x <;> first
    | (cases rx; rfl)
    | (obtain ⟨t, rfl⟩ := rx; rfl)

theorem op_notin_str : OpR X (compareOp .NotIn) (fun x y H Q => ∃ i j, x = .str i ∧ y = .str j ∧ Q (.bl (!(!(Builtin.Str.occurrences j i 0 j.length 1).isEmpty))) H) := by
  intro pins s σ H x y v u Q I rx ry h
  obtain ⟨i, j, rfl, rfl, q⟩ := h
  obtain ⟨t, rfl⟩ := rx
  obtain ⟨t', rfl⟩ := ry
  exact notIn_str (fin_bl I q rfl)
/-- is, is not of two objects that are tracked lists or instances -/
def isObj : HO → Bool
  | .lst _ => true
  | .ins _ _ _ => true
  | _ => false
theorem obj_there {pins : List (Addr × Obj)} {s : Shared} {σ : St} {H : Hp} {a : Addr} {o : HO} (I : Inv X pins σ H s) (h : H a = some o) (p : isObj o = true) : ∃ ob, s.heap.get? a = some ob ∧ ob.cls ≠ .type "tuple" := by
  cases o with
  | lst xs =>
    obtain ⟨_, its, n, _, e⟩ : xs.length ≤ sizeLine ∧ ∃ (its : List Value) (n : Nat), Vals xs its ∧ s.heap.get? a = some { cls := .type "list", data := .seq its.toArray n } := I.hok a _ h
    exact ⟨_, e, (by show Value.type "list" ≠ .type "tuple"; decide +kernel)⟩
  | ins C dx fs =>
    have x := I.hok a _ h
    obtain ⟨_, _, _, e, _⟩ := x
    exact ⟨_, e, (by show Value.ref C ≠ .type "tuple"; exact fun z => by cases z)⟩
  | _ => exact absurd (show false = true from p) Bool.false_ne_true
theorem op_is_ref : OpR X (compareOp .Is) (fun x y H Q => ∃ a b oa ob, x = .ref a ∧ y = .ref b ∧ H a = some oa ∧ isObj oa = true ∧ H b = some ob ∧ isObj ob = true ∧ Q (.bl (decide (a = b))) H) := by
  intro pins s σ H x y v u Q I rx ry h
  obtain ⟨a, b, oa, ob, rfl, rfl, ha, pa, hb, pb, q⟩ := h
  cases rx
  cases ry
  obtain ⟨o1, e1, n1⟩ := obj_there I ha pa
  obtain ⟨o2, e2, _⟩ := obj_there I hb pb
  by_cases z : a = b
  · subst z
    exact wpAny_is_ref_self (fin_bl I q (by simp))
  · exact wpAny_is_ref_other z e1 e2 n1 (fin_bl I q (by simp [z]))
theorem op_isnot_ref : OpR X (compareOp .IsNot) (fun x y H Q => ∃ a b oa ob, x = .ref a ∧ y = .ref b ∧ H a = some oa ∧ isObj oa = true ∧ H b = some ob ∧ isObj ob = true ∧ Q (.bl (!decide (a = b))) H) := by
  intro pins s σ H x y v u Q I rx ry h
  obtain ⟨a, b, oa, ob, rfl, rfl, ha, pa, hb, pb, q⟩ := h
  cases rx
  cases ry
  obtain ⟨o1, e1, n1⟩ := obj_there I ha pa
  obtain ⟨o2, e2, _⟩ := obj_there I hb pb
  by_cases z : a = b
  · subst z
    exact wpAny_isNot_ref_self (fin_bl I q (by simp))
  · exact wpAny_isNot_ref_other z e1 e2 n1 (fin_bl I q (by simp [z]))

/-- two rules for one operation: by cases -/
theorem OpR.or {f : Value → Value → Sem Value} {r r' : R2} (h : OpR X f r) (h' : OpR X f r') : OpR X f (fun x y H Q => r x y H Q ∨ r' x y H Q) := by
  intro pins s σ H x y v u Q I rx ry q
  rcases q with q | q
  · exact h pins s σ H x y v u Q I rx ry q
  · exact h' pins s σ H x y v u Q I rx ry q

theorem nomark (b : Expr) {op : CmpOp} (h : op ≠ .In := by decide) (h2 : op ≠ .NotIn := by decide) : behindInMarks op b = false := by
  have e1 : (op == CmpOp.In) = false := by cases op <;> first | rfl | exact absurd rfl h
  have e2 : (op == CmpOp.NotIn) = false := by cases op <;> first | rfl | exact absurd rfl h2
  cases b <;> simp [behindInMarks, e1, e2]
/-- a comparison as a value; hm: nomark b, or (for in, not in) by with_unfolding_all rfl -/
theorem pe_cmpR {op : CmpOp} {r : R2} (ho : OpR X (compareOp op) r) (ha : PE X a ta) (hb : PE X b tb) (hm : behindInMarks op b = false) : PE X (.Compare a [op] [b] pos) (tOp r ta tb) := by
  intro pins s σ H Q I h
  exact wpAny_Compare1 (binT ha hb I h fun v u s2 x y H2 I2 rx ry q => ho pins s2 σ H2 x y v u Q I2 rx ry q) hm
/-- a reading of a value as a test -/
def tTest (t : TE) : TT := fun σ H Q => t σ H fun x H' => ∃ k, x = .bl k ∧ Q k H'
theorem pt_cmpR {op : CmpOp} {r : R2} (ho : OpR X (compareOp op) r) (ha : PE X a ta) (hb : PE X b tb) (hm : behindInMarks op b = false) : PT X (.Compare a [op] [b] pos) (tTest (tOp r ta tb)) := by
  intro pins s σ H Q I h
  refine wpAny_isTrue_Compare1 (thn (ha pins s σ H _ I h) fun v s1 ⟨x, H1, I1, r1, q1⟩ => thn (hb pins s1 σ H1 _ I1 q1) fun u s2 ⟨y, H2, I2, r2, q2⟩ =>
    thn (ho pins s2 σ H2 x y v u _ I2 r1 r2 q2) fun c s3 ⟨z, H3, I3, r3, k, e, q3⟩ => ?_) hm
  subst e
  cases r3
  exact wpAny_truthy_bool ⟨H3, I3, q3⟩
/-- a op1 b op2 c -/
def tChain (r r' : R2) (ta tb tc : TE) : TE := fun σ H Q => ta σ H fun x H1 => tb σ H1 fun y H2 => r x y H2 fun z H3 => ∃ k, z = .bl k ∧
  (if k = true then tc σ H3 fun w' H4 => r' y w' H4 Q else Q (.bl false) H3)
theorem pe_chain {op op' : CmpOp} {r r' : R2} (ho : OpR X (compareOp op) r) (ho' : OpR X (compareOp op') r') (ha : PE X a ta) (hb : PE X b tb) (hc : PE X c tc)
    (hm : lastMarks [op, op'] [b, c] = false := by with_unfolding_all rfl) : PE X (.Compare a [op, op'] [b, c] pos) (tChain r r' ta tb tc) := by
  intro pins s σ H Q I h
  refine Compare_chain (thn (ha pins s σ H _ I h) fun v s1 ⟨x, H1, I1, r1, q1⟩ => chain_link (thn (hb pins s1 σ H1 _ I1 q1) fun u s2 ⟨y, H2, I2, r2, q2⟩ =>
    thn (ho pins s2 σ H2 x y v u _ I2 r1 r2 q2) fun d s3 ⟨z, H3, I3, r3, k, e, q3⟩ => ?_)) hm
  subst e
  cases r3
  refine wpAny_truthy_bool ?_
  cases k with
  | false => exact ite_ff ⟨.bl false, H3, I3, rfl, q3⟩
  | true => exact ite_tt (chain_last (thn (hc pins s3 σ H3 _ I3 q3) fun w' s4 ⟨z', H4, I4, r4, q4⟩ => ho' pins s4 σ H4 y z' u w' Q I4 r2 r4 q4))
theorem pt_chain {op op' : CmpOp} {r r' : R2} (ho : OpR X (compareOp op) r) (ho' : OpR X (compareOp op') r') (ha : PE X a ta) (hb : PE X b tb) (hc : PE X c tc)
    (hm : lastMarks [op, op'] [b, c] = false := by with_unfolding_all rfl) : PT X (.Compare a [op, op'] [b, c] pos) (tTest (tChain r r' ta tb tc)) := by
  intro pins s σ H Q I h
  refine isTrue_chain (thn (ha pins s σ H _ I h) fun v s1 ⟨x, H1, I1, r1, q1⟩ => test_link (thn (hb pins s1 σ H1 _ I1 q1) fun u s2 ⟨y, H2, I2, r2, q2⟩ =>
    thn (ho pins s2 σ H2 x y v u _ I2 r1 r2 q2) fun d s3 ⟨z, H3, I3, r3, k, e, q3⟩ => ?_)) hm
  subst e
  cases r3
  refine wpAny_truthy_bool ?_
  cases k with
  | false =>
    obtain ⟨k', e', q'⟩ := q3
    cases e'
    exact ite_ff ⟨H3, I3, q'⟩
  | true =>
    refine ite_tt (test_last (thn (hc pins s3 σ H3 _ I3 q3) fun w' s4 ⟨z', H4, I4, r4, q4⟩ => thn (ho' pins s4 σ H4 y z' u w' _ I4 r2 r4 q4) fun d' s5 ⟨z2, H5, I5, r5, k2, e2, q5⟩ => ?_))
    subst e2
    cases r5
    exact wpAny_truthy_bool ⟨H5, I5, q5⟩

/-! ### truth -/
/-- a value's truth by the abstract heap -/
def TruV (K : PySem.W.Frag) (x : V) (H : Hp) (k : Bool) : Prop :=
  match x with
  | .non => k = false
  | .bl b => k = b
  | .int i => k = (i != 0)
  | .str y => y.length ≤ sizeLine ∧ k = ((y.length : Int) != 0)
  | .byt y => y.size ≤ sizeLine ∧ k = ((y.size : Int) != 0)
  | .ref p => (∃ xs, SqL K H p xs ∧ k = !xs.isEmpty) ∨ (∃ xs, SqT K H p xs ∧ k = !xs.isEmpty) ∨ ∃ kvs, H p = some (.dK kvs) ∧ k = !kvs.isEmpty
  | _ => False
theorem isEmpty_kv {κ : Type} {kvs : List (κ × V)} {vs : List (κ × Value)} (r : KV kvs vs) : (!vs.isEmpty) = !kvs.isEmpty := by
  cases r <;> rfl
theorem isEmpty_of {xs : List V} {its : List Value} (r : Vals xs its) : (!its.toArray.isEmpty) = !xs.isEmpty := by
  cases r <;> simp
theorem line63 : (sizeLine : Nat) < 2 ^ 63 := by rw [sizeLine_eq]; decide
theorem tru_ok : TruR X (fun x H Q => ∃ k, TruV X.K x H k ∧ Q k H) := by
  intro pins s σ H x v Q I rx h
  obtain ⟨k, e, q⟩ := h
  have hl := line63
  have hs : sizeLine = 16777216 := sizeLine_eq
  cases x with
  | non =>
    cases rx
    have e' : k = false := e
    subst e'
    exact truthy_none ⟨H, I, q⟩
  | bl b =>
    cases rx
    have e' : k = b := e
    subst e'
    exact wpAny_truthy_bool ⟨H, I, q⟩
  | int i =>
    obtain ⟨t, rfl⟩ := rx
    have e' : k = (i != 0) := e
    subst e'
    exact PySem.P.truthy_int ⟨H, I, q⟩
  | str y =>
    obtain ⟨t, rfl⟩ := rx
    obtain ⟨hy, e'⟩ : y.length ≤ sizeLine ∧ k = ((y.length : Int) != 0) := e
    subst e'
    exact PySem.P.truthy_str (by omega) ⟨H, I.tok _, q⟩
  | byt y =>
    obtain ⟨t, rfl⟩ := rx
    obtain ⟨hy, e'⟩ : y.size ≤ sizeLine ∧ k = ((y.size : Int) != 0) := e
    subst e'
    exact PySem.W.truthy_bytes (by omega) ⟨H, I.tok _, q⟩
  | ref p =>
    cases rx
    have e' : (∃ xs, SqL X.K H p xs ∧ k = !xs.isEmpty) ∨ (∃ xs, SqT X.K H p xs ∧ k = !xs.isEmpty) ∨ ∃ kvs, H p = some (.dK kvs) ∧ k = !kvs.isEmpty := e
    rcases e' with ⟨xs, hx, e'⟩ | ⟨xs, hx, e'⟩ | ⟨kvs, hx, e'⟩
    · subst e'
      obtain ⟨its, r, pl, hz⟩ := I.list hx
      have hlen := r.length
      exact wpAny_truthy_list pl.isList (by simp only [List.size_toArray]; omega) ⟨H, I.tok _, by rw [isEmpty_of r]; exact q⟩
    · subst e'
      obtain ⟨its, r, pl, hz⟩ := I.tuple hx
      have hlen := r.length
      exact truthy_tuple pl (by simp only [List.size_toArray]; omega) ⟨H, I.tok _, by rw [isEmpty_of r]; exact q⟩
    · subst e'
      obtain ⟨hz, hS, vs, r, m⟩ : kvs.length ≤ sizeLine ∧ (p == sysModules) = false ∧ ∃ vs, KV kvs vs ∧ s.heap.DictOf (mixKind X.prog X.w) p vs := I.hok p _ hx
      have hlen : kvs.length = vs.length := Paired.length r
      exact wpAny_truthy_dict hS m (by omega) ⟨H, I.tok _, by rw [isEmpty_kv r]; exact q⟩
  | _ => exact (show False from e).elim
/-- any expression whose test is its value's truth (a name, a call, a subscript, a field ..: he by fun _ => rfl) -/
theorem pt_truth (ha : PE X a ta) (he : ∀ whole, isTrue a X.env whole = (do let v ← whole; standAt a.pos; holding [v] (truthy v))) :
    PT X a (fun σ H Q => ta σ H fun x H' => ∃ k, TruV X.K x H' k ∧ Q k H') := by
  intro pins s σ H Q I h
  exact isTrue_plain (thn (ha pins s σ H _ I h) fun v s1 ⟨x, H1, I1, r1, q1⟩ => tru_ok pins s1 σ H1 x v Q I1 r1 q1) (he _)

/-! ### strs and bytes -/
theorem pe_byt {x : List UInt8} {k : Nat} : PE X (.Constant (.bytes x) k pos) (fun _ H Q => Q (.byt x.toArray) H) := fun _ _ _ H _ I h => PySem.W.Constant_bytes ⟨.byt x.toArray, H, I.tok _, ⟨_, rfl⟩, h⟩
theorem op_add_str : OpR X (binaryOp .Add) (fun x y H Q => ∃ i j, x = .str i ∧ y = .str j ∧ i.length + j.length ≤ sizeLine ∧ Q (.str (i ++ j)) H) := by
  intro pins s σ H x y v u Q I rx ry h
  obtain ⟨i, j, rfl, rfl, hz, q⟩ := h
  obtain ⟨t, rfl⟩ := rx
  obtain ⟨t', rfl⟩ := ry
  exact add_str (fun t' tk => ⟨.str (i ++ j), H, I.tok _, ⟨_, rfl⟩, q⟩) hz
theorem iop_add_str : OpR X (inplaceOp .Add) (fun x y H Q => ∃ i j, x = .str i ∧ y = .str j ∧ i.length + j.length ≤ sizeLine ∧ Q (.str (i ++ j)) H) := by
  intro pins s σ H x y v u Q I rx ry h
  obtain ⟨i, j, rfl, rfl, hz, q⟩ := h
  obtain ⟨t, rfl⟩ := rx
  obtain ⟨t', rfl⟩ := ry
  exact iadd_str (fun t' tk => ⟨.str (i ++ j), H, I.tok _, ⟨_, rfl⟩, q⟩) hz
theorem op_add_byt : OpR X (binaryOp .Add) (fun x y H Q => ∃ i j, x = .byt i ∧ y = .byt j ∧ i.size + j.size ≤ 16777216 ∧ Q (.byt (i ++ j)) H) := by
  intro pins s σ H x y v u Q I rx ry h
  obtain ⟨i, j, rfl, rfl, hz, q⟩ := h
  obtain ⟨t, rfl⟩ := rx
  obtain ⟨t', rfl⟩ := ry
  exact PySem.W.KBy.add_bytes hz (fun t' tk => ⟨.byt (i ++ j), H, I.tok _, ⟨_, rfl⟩, q⟩)

def PlainIxT (b : Expr) : Prop := ∀ o i, subscripted b false o i = operate [o, i] (getItem o i)
/-- s[i], 0 ≤ i < len -/
theorem pe_item_str (ha : PE X a ta) (hb : PE X b tb) (hs : PlainIxT b) :
    PE X (.Subscript a b pos) (tOp (fun x y H Q => ∃ z i c, x = .str z ∧ y = .int i ∧ 0 ≤ i ∧ i < 2 ^ 63 ∧ i < z.length ∧ z.cps[i.toNat]? = some c ∧ Q (.str ⟨#[c]⟩) H) ta tb) := by
  intro pins s σ H Q I h
  refine Subscript_ (binT ha hb I h fun v u s2 x y H2 I2 rx ry q => ?_)
  obtain ⟨z, i, c, rfl, rfl, h0, h63, h1, hc, q⟩ := q
  obtain ⟨t, rfl⟩ := rx
  obtain ⟨t', rfl⟩ := ry
  have e : seqIndex? i z.length = some i.toNat := PySem.StrLaws.seqIndex_nonneg h0 h1
  exact tail_any (typeIs_str s2 z t) slot_str_getitem.lookup (getItem_str (c := c) (by
    have e1 : decide (i < -(2 ^ 63 : Int)) = false := decide_eq_false (by omega)
    have e2 : decide (i ≥ 2 ^ 63) = false := decide_eq_false (by omega)
    rw [e1, e2] <;> rfl) (by rw [e]; exact hc) ⟨.str ⟨#[c]⟩, H2, I2.tok _, ⟨_, rfl⟩, q⟩) (hs _ _)
/-- b[i], 0 ≤ i < len -/
theorem pe_item_byt (ha : PE X a ta) (hb : PE X b tb) (hs : PlainIxT b) :
    PE X (.Subscript a b pos) (tOp (fun x y H Q => ∃ (z : List UInt8) (i : Int), x = .byt z.toArray ∧ y = .int i ∧ z.length ≤ sizeLine ∧ 0 ≤ i ∧ i < z.length ∧ Q (.int ((z.getD i.toNat 0).toNat : Nat)) H) ta tb) := by
  intro pins s σ H Q I h
  refine Subscript_ (binT ha hb I h fun v u s2 x y H2 I2 rx ry q => ?_)
  obtain ⟨z, i, rfl, rfl, hz, h0, h1, q⟩ := q
  obtain ⟨t, rfl⟩ := rx
  obtain ⟨t', rfl⟩ := ry
  have hl : sizeLine = 16777216 := sizeLine_eq
  exact tail_any (PySem.W.typeIs_bytes s2 z.toArray t) PySem.W.FB.slot_bytes_getitem.lookup (PySem.W.getItem_bytes (by omega) h0 h1 ⟨.int ((z.getD i.toNat 0).toNat : Nat), H2, I2.tok _, ⟨_, rfl⟩, q⟩) (hs _ _)

/-! ### scalar builtins, by CallR -/
theorem vals1 {x : V} {us : List Value} (r : Vals [x] us) : ∃ u, us = [u] ∧ RelV x u := by
  cases r with
  | cons r1 r2 => cases r2; exact ⟨_, rfl, r1⟩
theorem vals2 {x y : V} {us : List Value} (r : Vals [x, y] us) : ∃ u w', us = [u, w'] ∧ RelV x u ∧ RelV y w' := by
  cases r with
  | cons r1 r2 =>
    cases r2 with
    | cons r3 r4 => cases r4; exact ⟨_, _, rfl, r1, r3⟩
theorem call_abs : CallR X (.builtin "abs") (fun xs H Q => ∃ i, xs = [.int i] ∧ Q (.int (if i < 0 then -i else i)) H) := by
  intro pins s σ H xs us Q I r h
  obtain ⟨i, rfl, q⟩ := h
  obtain ⟨u, rfl, t, rfl⟩ := vals1 r
  exact call_abs_int fun u tk => ⟨.int (if i < 0 then -i else i), H, I.tok _, ⟨_, rfl⟩, q⟩
theorem call_max2 (hc : X.calm = true) : CallR X (.builtin "max") (fun xs H Q => ∃ i j, xs = [.int i, .int j] ∧ Q (.int (if j > i then j else i)) H) := by
  intro pins s σ H xs us Q I r h
  obtain ⟨i, j, rfl, q⟩ := h
  obtain ⟨u, w', rfl, ⟨t, rfl⟩, ⟨t', rfl⟩⟩ := vals2 r
  refine max_two_ints (I.ok.hd hc) fun h' tk k => ⟨_, H, I.kept k, ?_, q⟩
  by_cases hj : j > i
  · rw [if_pos hj, if_pos hj]; exact ⟨_, rfl⟩
  · rw [if_neg hj, if_neg hj]; exact ⟨_, rfl⟩
theorem call_min2 (hc : X.calm = true) : CallR X (.builtin "min") (fun xs H Q => ∃ i j, xs = [.int i, .int j] ∧ Q (.int (if j < i then j else i)) H) := by
  intro pins s σ H xs us Q I r h
  obtain ⟨i, j, rfl, q⟩ := h
  obtain ⟨u, w', rfl, ⟨t, rfl⟩, ⟨t', rfl⟩⟩ := vals2 r
  refine min_two_ints (I.ok.hd hc) fun h' tk k => ⟨_, H, I.kept k, ?_, q⟩
  by_cases hj : j < i
  · rw [if_pos hj, if_pos hj]; exact ⟨_, rfl⟩
  · rw [if_neg hj, if_neg hj]; exact ⟨_, rfl⟩
theorem call_int1 : CallR X (.type "int") (fun xs H Q => (∃ i, xs = [.int i] ∧ Q (.int i) H) ∨ ∃ k, xs = [.bl k] ∧ Q (.int (if k then 1 else 0)) H) := by
  intro pins s σ H xs us Q I r h
  rcases h with ⟨i, rfl, q⟩ | ⟨k, rfl, q⟩
  · obtain ⟨u, rfl, t, rfl⟩ := vals1 r
    exact call_int_int ⟨.int i, H, I, ⟨_, rfl⟩, q⟩
  · obtain ⟨u, rfl, r1⟩ := vals1 r
    cases r1
    exact call_int_bool ⟨.int (if k then 1 else 0), H, I.tok _, ⟨_, rfl⟩, q⟩
theorem call_bool1 : CallR X (.type "bool") (fun xs H Q => (∃ i, xs = [.int i] ∧ Q (.bl (i != 0)) H) ∨ ∃ k, xs = [.bl k] ∧ Q (.bl k) H) := by
  intro pins s σ H xs us Q I r h
  rcases h with ⟨i, rfl, q⟩ | ⟨k, rfl, q⟩
  · obtain ⟨u, rfl, t, rfl⟩ := vals1 r
    exact call_bool_int ⟨.bl (i != 0), H, I, rfl, q⟩
  · obtain ⟨u, rfl, r1⟩ := vals1 r
    cases r1
    exact call_bool_bool ⟨.bl k, H, I, rfl, q⟩
theorem call_str_int : CallR X (.type "str") (fun xs H Q => ∃ i, xs = [.int i] ∧ i.natAbs.log2 < 1920 ∧ Q (.str (toString i)) H) := by
  intro pins s σ H xs us Q I r h
  obtain ⟨i, rfl, hz, q⟩ := h
  obtain ⟨u, rfl, t, rfl⟩ := vals1 r
  exact PySem.P.str_of_int hz ⟨.str _, H, I.tok _, ⟨_, rfl⟩, q⟩
theorem call_ord : CallR X (.builtin "ord") (fun xs H Q => ∃ x, xs = [.str x] ∧ x.length = 1 ∧ Q (.int (x.cps.getD 0 0 : Nat)) H) := by
  intro pins s σ H xs us Q I r h
  obtain ⟨x, rfl, hz, q⟩ := h
  obtain ⟨u, rfl, t, rfl⟩ := vals1 r
  exact ord_of_one hz ⟨.int _, H, I.tok _, ⟨_, rfl⟩, q⟩
theorem call_chr : CallR X (.builtin "chr") (fun xs H Q => ∃ i, xs = [.int i] ∧ 0 ≤ i ∧ i ≤ 1114111 ∧ Q (.str ⟨#[i.toNat]⟩) H) := by
  intro pins s σ H xs us Q I r h
  obtain ⟨i, rfl, h0, h1, q⟩ := h
  obtain ⟨u, rfl, t, rfl⟩ := vals1 r
  exact chr_of_range h0 h1 ⟨.str _, H, I.tok _, ⟨_, rfl⟩, q⟩
/-- len of a str, a bytes, a list, a tuple -/
def LenV (K : PySem.W.Frag) (x : V) (H : Hp) (n : Nat) : Prop :=
  match x with
  | .str y => y.length ≤ sizeLine ∧ n = y.length
  | .byt y => y.size ≤ sizeLine ∧ n = y.size
  | .ref p => (∃ xs, SqL K H p xs ∧ n = xs.length) ∨ ∃ xs, SqT K H p xs ∧ n = xs.length
  | _ => False
theorem call_len : CallR X (.builtin "len") (fun xs H Q => ∃ x n, xs = [x] ∧ LenV X.K x H n ∧ Q (.int n) H) := by
  intro pins s σ H xs us Q I r h
  obtain ⟨x, n, rfl, e, q⟩ := h
  obtain ⟨u, rfl, rx⟩ := vals1 r
  have hl := line63
  have hs : sizeLine = 16777216 := sizeLine_eq
  cases x with
  | str y =>
    obtain ⟨t, rfl⟩ := rx
    obtain ⟨hy, e'⟩ : y.length ≤ sizeLine ∧ n = y.length := e
    subst e'
    exact len_str (by omega) ⟨.int _, H, I.tok _, ⟨_, rfl⟩, q⟩
  | byt y =>
    obtain ⟨t, rfl⟩ := rx
    obtain ⟨hy, e'⟩ : y.size ≤ sizeLine ∧ n = y.size := e
    subst e'
    exact PySem.W.len_bytes (by omega) ⟨.int _, H, I.tok _, ⟨_, rfl⟩, q⟩
  | ref p =>
    cases rx
    have e' : (∃ xs, SqL X.K H p xs ∧ n = xs.length) ∨ ∃ xs, SqT X.K H p xs ∧ n = xs.length := e
    rcases e' with ⟨xs, hx, e'⟩ | ⟨xs, hx, e'⟩
    · subst e'
      obtain ⟨its, r', pl, hz⟩ := I.list hx
      have hlen := r'.length
      exact Calls.call_len_list pl.isList (by simp only [List.size_toArray]; omega) ⟨.int xs.length, H, I.tok _, ⟨_, by simp only [List.size_toArray]; rw [hlen]⟩, q⟩
    · subst e'
      obtain ⟨its, r', pl, hz⟩ := I.tuple hx
      have hlen := r'.length
      exact len_tuple pl (by simp only [List.size_toArray]; omega) ⟨.int xs.length, H, I.tok _, ⟨_, by simp only [List.size_toArray]; rw [hlen]⟩, q⟩
  | _ => exact (show False from e).elim
/-- divmod: a new tuple -/
theorem call_divmod : CallR X (.builtin "divmod") (fun xs H Q => ∃ i j, xs = [.int i, .int j] ∧ CDiv i j ∧ ∀ p, H p = none → Q (.ref p) (upd H p (.tup [.int (i / j), .int (i % j)]))) := by
  intro pins s σ H xs us Q I r h
  obtain ⟨i, j, rfl, ⟨h1, h2⟩, q⟩ := h
  obtain ⟨u, w', rfl, ⟨t, rfl⟩, ⟨t', rfl⟩⟩ := vals2 r
  refine divmod_int (by omega) ?_ (.inl (PyProof.noPylong_small (by omega)))
  rw [Int.fdiv_eq_ediv_of_nonneg i (by omega), Int.fmod_eq_emod_of_nonneg i (by omega)]
  have hn : H s.heap.objs.size = none := I.hok.fresh (Nat.le_refl _)
  refine ⟨.ref s.heap.objs.size, _, ?_, rfl, q _ hn⟩
  refine I.laid (fun b o e => Heap.get?_push_of_some _ e) (Nat.le_refl _) ⟨by simp only [List.length_cons, List.length_nil]; rw [sizeLine_eq]; decide, [.int (i / j) s.toks, .int (i % j) (s.toks + 1)], .cons ⟨_, rfl⟩ (.cons ⟨_, rfl⟩ .nil), ?_⟩
  exact ⟨_, Heap.get?_push_size s.heap rfl, rfl, 0, rfl⟩
end
end L2

namespace L2
open PySem PySem.Spec PyProof.Rows

/-! ### an instance, its attributes a map -/
structure ObjM (h : Heap) (x dx C : Addr) (mA : Str → Option Value) : Prop where
  obj : h.get? x = some (PySem.W.instObj C dx)
  ns : h.Ns1 dx mA
  ne : dx ≠ x

theorem lookIn_ns {h : Heap} {dx : Addr} {mA : Str → Option Value} (n : h.Ns1 dx mA) : ∃ od, h.get? dx = some od ∧ ∀ name, PySem.W.lookIn name od = some (mA name) := by
  obtain ⟨o, es, ep, ho, hd, hk, _, hm⟩ := n
  refine ⟨o, ho, fun name => ?_⟩
  have e := hm name
  unfold nsFind findBy at e
  rw [← Array.find?_toList] at e
  unfold PySem.W.lookIn
  rw [hd]
  dsimp only
  split
  · rename_i y q
    rw [q] at e
    exact congrArg some e
  · rename_i q
    rw [q] at e
    have a : es.toList.any (·.refKey) = false := by
      rw [List.any_eq_false]
      intro y hy
      obtain ⟨z, t, hkey⟩ := hk y (Array.mem_toList_iff.mp hy)
      simp [DictEntry.refKey, hkey]
    have a' : ¬ es.toList.any (·.refKey) = true := by rw [a]; exact Bool.false_ne_true
    rw [if_neg a']
    exact congrArg some e

theorem ObjM.look {h : Heap} {x dx C : Addr} {mA : Str → Option Value} (I : ObjM h x dx C mA) : ∃ od, PySem.W.InstAt h x (PySem.W.instObj C dx) C (some od) ∧ ∀ name, PySem.W.lookIn name od = some (mA name) :=
  let ⟨od, ho, hl⟩ := lookIn_ns I.ns
  ⟨od, ⟨I.obj, rfl, rfl, ho⟩, hl⟩

section
variable {prog : Program} {w : World} {A : Around} {E : Value → Shared → Prop} {s : Shared} {K : PySem.W.Frag} {x dx C f : Addr} {mA : Str → Option Value} {name : Str} {v : Value}

theorem get_map {expr : Bool} {Q : Value → Shared → Prop} (X : K.In s.heap) (I : ObjM s.heap x dx C mA) (hg : PySem.W.plainGet K C name = true) (hh : PySem.W.hasDictIn K C = true)
    (ha : PySem.W.findIn K (.ref C) name = some none) (hv : mA name = some v) (hv' : PySem.W.handedIn v = true) (h : Q v { s with toks := s.toks + 1 }) :
    wpAny (model prog w) A (getAttr (.ref x) name expr) Q E s := by
  obtain ⟨od, J, hl⟩ := I.look
  exact PySem.W.get_value X J (PySem.W.plainGet_of hg).1 (PySem.W.findObj_own hh ha rfl (by rw [hl, hv])) hv' h

theorem get_const {expr : Bool} {a : Value} {Q : Value → Shared → Prop} (X : K.In s.heap) (I : ObjM s.heap x dx C mA) (hg : PySem.W.plainGet K C name = true) (hh : PySem.W.hasDictIn K C = true)
    (ha : PySem.W.findIn K (.ref C) name = some (some a)) (hn : PySem.W.specialIn K a "__get__" = some none) (hc : PySem.W.copiedNames.contains name = false) (hv : mA name = none) (hv' : PySem.W.handedIn a = true)
    (h : Q a { s with toks := s.toks + 1 }) : wpAny (model prog w) A (getAttr (.ref x) name expr) Q E s := by
  obtain ⟨od, J, hl⟩ := I.look
  exact PySem.W.get_value X J (PySem.W.plainGet_of hg).1 (PySem.W.findObj_cls hh ha hn hv' hc (by rw [hl, hv])) hv' h

theorem get_meth {pl : Sem Bool} {Q : Value × List Value → Shared → Prop} (X : K.In s.heap) (I : ObjM s.heap x dx C mA) (hg : PySem.W.plainGet K C name = true)
    (hf : PySem.W.findIn K (.ref C) name = some (some (.ref f))) (ht : PySem.W.isFn K (.ref f) = true) (hv : mA name = none) (h : Q (.ref f, [.ref x]) s) :
    wpAny (model prog w) A (getMethod (.ref x) name pl) Q E s := by
  obtain ⟨od, J, hl⟩ := I.look
  exact PySem.W.method_fn X J (PySem.W.plainGet_of hg).1 (PySem.W.plainGet_of hg).2 hf (beq_iff_eq.mp ht) (by show (PySem.W.lookIn name od).map (·.isSome) = some false; rw [hl, hv]; rfl) h

theorem set_map {ns : List Str} {Q : Unit → Shared → Prop} (X : K.In s.heap) (I : ObjM s.heap x dx C mA)
    (hs : PySem.W.findIn K (.ref C) "__setattr__" = some (some (.builtin "object.__setattr__"))) (hp : PySem.W.plainOver K C = true) (ht : PySem.W.takerIn K C name = some none) (hh : PySem.W.hasDictIn K C = true)
    (hw : PySem.Within mA ns) (hsz : ns.length ≤ sizeLine)
    (h : ∀ h', ObjM h' x dx C (fun y => if y = name then some v else mA y) → Heap.SameBut dx s.heap h' → Q () { s with heap := h', toks := s.toks + 2 }) :
    wpAny (model prog w) A (setAttr (.ref x) name v) Q E s := by
  obtain ⟨od, J, hl⟩ := I.look
  refine PySem.W.set_plain X J hs (PySem.W.osa_open (s := { s with toks := s.toks + 1 }) (r := none) X J hp ht fun b => ?_)
  obtain ⟨cd, hc, hd'⟩ := PySem.W.any_some hh
  have hx : s.heap.get? x = some ⟨.ref C, some dx, .plain, #[]⟩ := I.obj
  refine wpAny_bind (wpAny_pure (wpAny_bind (wpAny_bind (wpAny_loadPart hx (wpAny_bind (PySem.W.Looks.here (s := { s with toks := s.toks + 1 }) (PySem.W.looks_clsIn X hc) ?_))))))
  rw [hd']
  refine wpAny_pure (a := some dx) (wpAny_bind (wpAny_pure (wpAny_bind ?_)))
  refine wpAny_nsSet1 (s := { s with toks := s.toks + 1 }) I.ns fun h' hn2 hs2 => ?_
  obtain ⟨oD, esD, epD, hoD, hdD, hcD⟩ := hn2.count (PySem.Within.cons name v hw)
  refine wpAny_bind (wpAny_lookBehind hoD (by rw [hdD]; exact pastItsLine_dict (Nat.le_trans hcD (by rw [List.length_cons]; omega))) ?_)
  exact wpAny_pure (h _ ⟨(hs2.2 _ (Ne.symm I.ne)).trans I.obj, hn2, I.ne⟩ hs2)

/-- C(..): the dict at the heap's end, the instance behind it; then its __init__ -/
theorem make_map {R : Result → Shared → Prop} {vs : List Value} {kw : List (Str × Value)} (X : K.In s.heap) (hm : PySem.W.makesIn K C = true)
    (hi : PySem.W.findIn K (.ref C) "__init__" = some (some (.ref f))) (hf : PySem.W.typeIn K (.ref f) = some (.type "function"))
    (h : codeAny (model prog w) (A.under (.builtin "type.__call__" ⟨.ref C :: vs, kw⟩)) (.call (.ref f) ⟨.ref (s.heap.objs.size + 1) :: vs, kw⟩) (PySem.W.InitBack (s.heap.objs.size + 1) R)
      { s with heap := (s.heap.push PySem.W.emptyDict).push (PySem.W.instObj C s.heap.objs.size) }) :
    codeAny (model prog w) A (.call (.ref C) ⟨vs, kw⟩) R s := by
  obtain ⟨hh, g, d, t, os⟩ := s
  exact PySem.W.make_core (PySem.W.makes_of X hm) (PySem.W.looks_findIn X hi) (fun self => PySem.W.bind_fn X self hf) (.inl rfl) h
/-- C() where there is no __init__ but object's -/
theorem make_map0 {R : Result → Shared → Prop} (X : K.In s.heap) (hm : PySem.W.makesIn K C = true)
    (hi : PySem.W.findIn K (.ref C) "__init__" = some (some (.builtin "object.__init__")))
    (hb : ∀ self, PySem.W.Looks (model prog w) s.heap (bindSpecial (.builtin "object.__init__") self) (.builtin "object.__init__", [self]))
    (h : codeAny (model prog w) (A.under (.builtin "type.__call__" ⟨[.ref C], []⟩)) (.call (.builtin "object.__init__") ⟨[.ref (s.heap.objs.size + 1)], []⟩) (PySem.W.InitBack (s.heap.objs.size + 1) R)
      { s with heap := (s.heap.push PySem.W.emptyDict).push (PySem.W.instObj C s.heap.objs.size) }) :
    codeAny (model prog w) A (.call (.ref C) ⟨[], []⟩) R s := by
  obtain ⟨hh, g, d, t, os⟩ := s
  exact PySem.W.make_core (PySem.W.makes_of X hm) (PySem.W.looks_findIn X hi) hb (.inr ⟨rfl, rfl⟩) h
end

/-! ### the attributes as a list of pairs -/
def putF (f : Str) (v : V) : List (Str × V) → List (Str × V)
  | [] => [(f, v)]
  | (g, x) :: r => if g = f then (g, v) :: r else (g, x) :: putF f v r
theorem lookup_putF (f g : Str) (v : V) : ∀ fs : List (Str × V), (putF f v fs).lookup g = if g = f then some v else fs.lookup g
  | [] => by
    show List.lookup g [(f, v)] = _
    by_cases h : g = f
    · have hb : (g == f) = true := beq_iff_eq.mpr h
      simp only [List.lookup, hb, if_pos h]
    · have hb : (g == f) = false := beq_eq_false_iff_ne.mpr h
      simp only [List.lookup, hb, if_neg h]
  | (k, x) :: r => by
    have ih := lookup_putF f g v r
    rw [show putF f v ((k, x) :: r) = (if k = f then (k, v) :: r else (k, x) :: putF f v r) from rfl]
    by_cases hk : k = f
    · rw [if_pos hk]
      by_cases h : g = k
      · have hb : (g == k) = true := beq_iff_eq.mpr h
        simp only [List.lookup, hb, if_pos (h.trans hk)]
      · have hb : (g == k) = false := beq_eq_false_iff_ne.mpr h
        simp only [List.lookup, hb, if_neg (fun e : g = f => h (e.trans hk.symm))]
    · rw [if_neg hk]
      by_cases h : g = k
      · have hb : (g == k) = true := beq_iff_eq.mpr h
        simp only [List.lookup, hb, if_neg (fun e : g = f => hk (h.symm.trans e))]
      · have hb : (g == k) = false := beq_eq_false_iff_ne.mpr h
        simp only [List.lookup, hb]
        exact ih
theorem keys_putF (f : Str) (v : V) : ∀ fs : List (Str × V), f ∈ (putF f v fs).map (·.1) ∧ ∀ g, g ∈ fs.map (·.1) → g ∈ (putF f v fs).map (·.1)
  | [] => ⟨by simp [putF], fun g h => by simp at h⟩
  | (k, x) :: r => by
    obtain ⟨i1, i2⟩ := keys_putF f v r
    rw [show putF f v ((k, x) :: r) = (if k = f then (k, v) :: r else (k, x) :: putF f v r) from rfl]
    by_cases hk : k = f
    · rw [if_pos hk]
      subst hk
      exact ⟨by simp, fun g h => by simpa using h⟩
    · rw [if_neg hk]
      refine ⟨?_, fun g h => ?_⟩
      · rw [List.map_cons]
        exact List.mem_cons_of_mem _ i1
      · rw [List.map_cons] at h ⊢
        rcases List.mem_cons.mp h with e | e
        · exact List.mem_cons.mpr (.inl e)
        · exact List.mem_cons_of_mem _ (i2 g e)
theorem length_putF (f : Str) (v : V) : ∀ fs : List (Str × V), (putF f v fs).length ≤ fs.length + 1
  | [] => by simp [putF]
  | (k, x) :: r => by
    have ih := length_putF f v r
    rw [show putF f v ((k, x) :: r) = (if k = f then (k, v) :: r else (k, x) :: putF f v r) from rfl]
    by_cases hk : k = f
    · rw [if_pos hk, List.length_cons, List.length_cons]; omega
    · rw [if_neg hk, List.length_cons, List.length_cons]; omega

theorem RelO.some_of {v : V} {o : Option Value} (r : RelO (some v) o) : ∃ u, o = some u ∧ RelV v u := by
  cases o with
  | none => exact (show False from r).elim
  | some u => exact ⟨u, rfl, r⟩
theorem RelO.none_of {o : Option Value} (r : RelO none o) : o = none := by
  cases o with
  | none => rfl
  | some u => exact (show False from r).elim
theorem handed_of {v : V} {u : Value} (r : RelV v u) : PySem.W.handedIn u = true := by
  cases v with
  | non => cases (show u = Value.none from r); rfl
  | bl b => cases (show u = Value.bool b from r); rfl
  | int i => obtain ⟨t, e⟩ := (show ∃ t, u = Value.int i t from r); cases e; rfl
  | str x => obtain ⟨t, e⟩ := (show ∃ t, u = Value.str x t from r); cases e; rfl
  | byt b => obtain ⟨t, e⟩ := (show ∃ t, u = Value.bytes b t from r); cases e; rfl
  | flt b => obtain ⟨t, e⟩ := (show ∃ t, u = Value.float b t from r); cases e; rfl
  | ref a => cases (show u = Value.ref a from r); rfl
  | ty n => cases (show u = Value.type n from r); rfl

section
variable {P : Program} {w : World} {H H' : Hp} {h h' : Heap} {a C dx : Addr} {fs fs' : List (Str × V)}
theorem ins_get (hok : HOk P w H h) (e : H a = some (.ins C dx fs)) : ∃ mA, ObjM h a dx C mA ∧ (∀ f, RelO (fs.lookup f) (mA f)) ∧ PySem.Within mA (fs.map (·.1)) ∧ fs.length ≤ 1000 ∧ H dx = some (.own a) := by
  obtain ⟨d, z, ne, ob, mA, n, r, q⟩ := (show ObjOk P w H h a (.ins C dx fs) from hok a _ e)
  exact ⟨mA, ⟨ob, n, ne⟩, r, q, z, d⟩
end

/-! ### what of the text a class must have -/
structure Cls (K : PySem.W.Frag) (C : Addr) : Prop where
  pg : PySem.W.plainGet K C Str.empty = true
  hd : PySem.W.hasDictIn K C = true
  po : PySem.W.plainOver K C = true
  sa : PySem.W.findIn K (.ref C) "__setattr__" = some (some (.builtin "object.__setattr__"))
theorem Cls.get {K : PySem.W.Frag} {C : Addr} (c : Cls K C) (f : Str) : PySem.W.plainGet K C f = true := c.pg
/-- no class of it has the name -/
def NoAttr (K : PySem.W.Frag) (C : Addr) (f : Str) : Prop := PySem.W.findIn K (.ref C) f = some none
theorem NoAttr.taker {K : PySem.W.Frag} {C : Addr} {f : Str} (n : NoAttr K C f) : PySem.W.takerIn K C f = some none := by
  unfold PySem.W.takerIn
  rw [show PySem.W.findIn K (.ref C) f = some none from n]
  rfl
/-- a constant of the class -/
structure Con (K : PySem.W.Frag) (C : Addr) (f : Str) (v : V) (u : Value) : Prop where
  at_ : PySem.W.findIn K (.ref C) f = some (some u)
  rel : RelV v u
  get : PySem.W.specialIn K u "__get__" = some none
  cp : PySem.W.copiedNames.contains f = false
/-- a method: a plain def of the class or of one above it -/
structure Meth (K : PySem.W.Frag) (C : Addr) (m : Str) (f : Addr) : Prop where
  at_ : PySem.W.findIn K (.ref C) m = some (some (.ref f))
  fn : PySem.W.isFn K (.ref f) = true
  kp : PySem.W.keepIn K (.ref f) = true

section
variable {X : Cx} {pins : List (Addr × Obj)} {σ : St} {H : Hp} {s : Shared} {a C dx : Addr} {fs : List (Str × V)} {f : Str} {v : V} {A : Around} {E : Value → Shared → Prop}

theorem getattr_ok {b : Bool} {Q : Value → Shared → Prop} (I : Inv X pins σ H s) (e : H a = some (.ins C dx fs)) (c : Cls X.K C) (n : NoAttr X.K C f) (l : fs.lookup f = some v)
    (h : ∀ u s', Inv X pins σ H s' → RelV v u → Q u s') : wpAny (model X.prog X.w) A (getAttr (.ref a) f b) Q E s := by
  obtain ⟨mA, O, r, _, _, _⟩ := ins_get I.hok e
  obtain ⟨u, hu, ru⟩ := RelO.some_of (v := v) (o := mA f) (by rw [← l]; exact r f)
  exact get_map I.kIn O (c.get f) c.hd n hu (handed_of ru) (h u _ (I.tok _) ru)

theorem getcon_ok {b : Bool} {u : Value} {Q : Value → Shared → Prop} (I : Inv X pins σ H s) (e : H a = some (.ins C dx fs)) (c : Cls X.K C) (k : Con X.K C f v u) (l : fs.lookup f = none)
    (h : ∀ s', Inv X pins σ H s' → Q u s') : wpAny (model X.prog X.w) A (getAttr (.ref a) f b) Q E s := by
  obtain ⟨mA, O, r, _, _, _⟩ := ins_get I.hok e
  have hn : mA f = none := RelO.none_of (by rw [← l]; exact r f)
  exact get_const I.kIn O (c.get f) c.hd k.at_ k.get k.cp hn (handed_of k.rel) (h _ (I.tok _))

theorem getmeth_ok {m : Str} {g : Addr} {pl : Sem Bool} {Q : Value × List Value → Shared → Prop} (I : Inv X pins σ H s) (e : H a = some (.ins C dx fs)) (c : Cls X.K C) (k : Meth X.K C m g) (l : fs.lookup m = none)
    (h : Q (.ref g, [.ref a]) s) : wpAny (model X.prog X.w) A (getMethod (.ref a) m pl) Q E s := by
  obtain ⟨mA, O, r, _, _, _⟩ := ins_get I.hok e
  have hn : mA m = none := RelO.none_of (by rw [← l]; exact r m)
  exact get_meth I.kIn O (c.get m) k.at_ k.fn hn h

theorem setattr_ok {y : V} {u : Value} {Q : Unit → Shared → Prop} (I : Inv X pins σ H s) (e : H a = some (.ins C dx fs)) (c : Cls X.K C) (n : NoAttr X.K C f) (hl : fs.length < 1000) (ry : RelV y u)
    (h : ∀ s', Inv X pins σ (upd H a (.ins C dx (putF f y fs))) s' → Q () s') : wpAny (model X.prog X.w) A (setAttr (.ref a) f u) Q E s := by
  obtain ⟨mA, O, r, wi, _, ho⟩ := ins_get I.hok e
  have hz : (fs.map (·.1)).length ≤ sizeLine := by rw [List.length_map, sizeLine_eq]; omega
  refine set_map I.kIn O c.sa c.po n.taker c.hd wi hz fun h' O' sb => h _ ?_
  have hd : ∃ o, h'.get? dx = some o := let ⟨o, _, _, e', _⟩ := O'.ns; ⟨o, e'⟩
  refine I.write (x := a) (e := dx) (by rw [e]; exact True.intro) (.inr ho) (fun b q hb z => (sb.2 b hb).trans z) hd ?_
  refine ⟨by rw [upd_ne O.ne]; exact ho, ?_, O.ne, O'.obj, _, O'.ns, fun g => ?_, fun g hg => ?_⟩
  · have := length_putF f y fs; omega
  · show RelO ((putF f y fs).lookup g) (if g = f then some u else mA g)
    rw [lookup_putF]
    by_cases q : g = f
    · rw [if_pos q, if_pos q]; exact ry
    · rw [if_neg q, if_neg q]; exact r g
  · by_cases q : g = f
    · rw [q]; exact (keys_putF f y fs).1
    · refine (keys_putF f y fs).2 g (wi g fun z => hg ?_)
      show (if g = f then some u else mA g) = none
      rw [if_neg q]; exact z

/-- a new instance, tracked, without attributes -/
theorem Inv.made (I : Inv X pins σ H s) : Inv X pins σ (upd (upd H s.heap.objs.size (.own (s.heap.objs.size + 1))) (s.heap.objs.size + 1) (.ins C s.heap.objs.size []))
    { s with heap := (s.heap.push PySem.W.emptyDict).push (PySem.W.instObj C s.heap.objs.size) } := by
  have e1 : (s.heap.push PySem.W.emptyDict).get? s.heap.objs.size = some PySem.W.emptyDict := Heap.get?_push_size s.heap rfl
  have e2 : ((s.heap.push PySem.W.emptyDict).push (PySem.W.instObj C s.heap.objs.size)).get? (s.heap.objs.size + 1) = some (PySem.W.instObj C s.heap.objs.size) := by
    have := Heap.get?_push_size (s.heap.push PySem.W.emptyDict) (o := PySem.W.instObj C s.heap.objs.size) rfl
    rwa [Heap.size_push] at this
  have e3 : (s.heap.push PySem.W.emptyDict).Ns s.heap.objs.size (fun _ => none) := ⟨PySem.W.emptyDict, #[], _, e1, rfl, (fun e he => absurd he (by simp)), fun _ => rfl⟩
  have I1 := I.laid (a := s.heap.objs.size) (o := .own (s.heap.objs.size + 1)) (h' := s.heap.push PySem.W.emptyDict) (t' := s.toks) (fun b u q => Heap.get?_push_of_some _ q) (Nat.le_refl _) ⟨_, e1⟩
  refine I1.laid (a := s.heap.objs.size + 1) (o := .ins C s.heap.objs.size []) (t' := s.toks) (fun b u q => Heap.get?_push_of_some _ q) (Nat.le_of_eq (Heap.size_push _ _)) ?_
  have ne : s.heap.objs.size ≠ s.heap.objs.size + 1 := Nat.ne_of_lt (Nat.lt_succ_self _)
  refine ⟨by rw [upd_ne ne, upd_same], Nat.zero_le _, ne, e2, fun _ => none, (Heap.Ns1.of_empty e3).at fun o q => Heap.get?_push_of_some _ q, fun _ => True.intro, fun y hy => absurd rfl hy⟩

/-- e.f where nothing but the object is asked: through attributeBase (super) and the last hold -/
theorem attr_of {prog : Program} {w : World} {env : Env} {e : Expr} {f : Str} {pos : Pos} {s : Shared} {Q : Value → Shared → Prop} (hb : attributeBase e f env (eval e env) = eval e env)
    (h : wpAny (model prog w) A (eval e env) (fun o s₁ => wpAny (model prog w) A (getAttr o f true) Q E s₁) E s) : wpAny (model prog w) A (eval (.Attribute e f pos) env) Q E s :=
  Attribute_any_ h (by rw [arm_eval_Attribute, hb])
end

/-! ### readings and rules -/
/-- e.f, an attribute of the instance -/
def tFld (K : PySem.W.Frag) (ta : TE) (f : Str) : TE := fun σ H Q => ta σ H fun x H1 => ∃ a C dx fs v, x = .ref a ∧ H1 a = some (.ins C dx fs) ∧ Cls K C ∧ NoAttr K C f ∧ fs.lookup f = some v ∧ Q v H1
/-- e.f, a constant of the class -/
def tCon (K : PySem.W.Frag) (ta : TE) (f : Str) : TE := fun σ H Q => ta σ H fun x H1 => ∃ a C dx fs v u, x = .ref a ∧ H1 a = some (.ins C dx fs) ∧ Cls K C ∧ Con K C f v u ∧ fs.lookup f = none ∧ Q v H1
/-- e.f = value -/
def sFld (K : PySem.W.Frag) (ta tv : TE) (f : Str) : TS := fun D σ H => tv σ H fun y H1 => ta σ H1 fun x H2 => ∃ a C dx fs, x = .ref a ∧ H2 a = some (.ins C dx fs) ∧ Cls K C ∧ NoAttr K C f ∧ fs.length < 1000 ∧
  D.nx σ (upd H2 a (.ins C dx (putF f y fs)))
/-- an augmented operator on two values -/
def InOp (X : Cx) (op : Operator) (rd : V → V → Hp → VK → Prop) : Prop :=
  ∀ (pins : List (Addr × Obj)) (s : Shared) (σ : St) (H : Hp) (x y : V) (u v : Value) (Q : VK), Inv X pins σ H s → RelV x u → RelV y v → rd x y H Q → wpAny (model X.prog X.w) X.A (inplaceOp op u v) (EP X pins σ Q) X.xe s
/-- e.f op= value -/
def sFldAug (K : PySem.W.Frag) (ta tv : TE) (rd : V → V → Hp → VK → Prop) (f : Str) : TS := fun D σ H => ta σ H fun x H1 => ∃ a C dx fs v, x = .ref a ∧ H1 a = some (.ins C dx fs) ∧ Cls K C ∧ NoAttr K C f ∧ fs.lookup f = some v ∧
  tv σ H1 fun y H2 => rd v y H2 fun z H3 => ∃ dx' fs', H3 a = some (.ins C dx' fs') ∧ fs'.length < 1000 ∧ D.nx σ (upd H3 a (.ins C dx' (putF f z fs')))

section
variable {X : Cx} {o e value : Expr} {f : Str} {pos pos' tpos : Pos} {ta tv : TE}
theorem pe_fld (he : PE X e ta) (hb : attributeBase e f X.env (eval e X.env) = eval e X.env) : PE X (.Attribute e f pos) (tFld X.K ta f) := by
  intro pins s σ H Q I h
  refine attr_of hb (thn (he pins s σ H _ I h) fun u s1 ⟨x, H1, I1, rx, a, C, dx, fs, v, ex, ea, c, n, l, q⟩ => ?_)
  subst ex
  obtain rfl : u = Value.ref a := rx
  exact getattr_ok I1 ea c n l fun u' s2 I2 ru => ⟨v, H1, I2, ru, q⟩
theorem pe_con (he : PE X e ta) (hb : attributeBase e f X.env (eval e X.env) = eval e X.env) : PE X (.Attribute e f pos) (tCon X.K ta f) := by
  intro pins s σ H Q I h
  refine attr_of hb (thn (he pins s σ H _ I h) fun u s1 ⟨x, H1, I1, rx, a, C, dx, fs, v, u0, ex, ea, c, k, l, q⟩ => ?_)
  subst ex
  obtain rfl : u = Value.ref a := rx
  exact getcon_ok I1 ea c k l fun s2 I2 => ⟨v, H1, I2, k.rel, q⟩
theorem ps_fld (ha : PE X o ta) (hv : PE X value tv) (hs : swapsWith value (some (.Attribute o f pos')) pos.line X.env = pure false) : PS X (.Assign [.Attribute o f pos'] value pos) (sFld X.K ta tv f) := by
  intro pins s σ H D I h
  refine plainObj_wpAny_Assign_Attribute (thn (hv pins s σ H _ I h) fun u s1 ⟨y, H1, I1, ry, q⟩ => thn (ha pins s1 σ H1 _ I1 q) fun ov s2 ⟨x, H2, I2, rx, a, C, dx, fs, ex, ea, c, n, l, q2⟩ => ?_) hs
  subst ex
  obtain rfl : ov = Value.ref a := rx
  exact setattr_ok I2 ea c n l ry fun s3 I3 => ⟨σ, _, I3, q2⟩
theorem ps_fldaug {op : Operator} {rd : V → V → Hp → VK → Prop} (ha : PE X o ta) (hv : PE X value tv) (hop : InOp X op rd) : PS X (.AugAssign (.Attribute o f tpos) op value pos) (sFldAug X.K ta tv rd f) := by
  intro pins s σ H D I h
  refine wpAny_AugAssign_AttributeAny (thn (ha pins s σ H _ I h) fun ov s1 ⟨x, H1, I1, rx, a, C, dx, fs, v, ex, ea, c, n, l, q⟩ => ?_)
  subst ex
  obtain rfl : ov = Value.ref a := rx
  refine getattr_ok I1 ea c n l fun u s2 I2 ru => thn (hv pins s2 σ H1 _ I2 q) fun w3 s3 ⟨y, H2, I3, ry, q3⟩ => thn (hop pins s3 σ H2 v y u w3 _ I3 ru ry q3) fun w4 s4 ⟨z, H3, I4, rz, dx', fs', ea', l', q4⟩ => ?_
  exact setattr_ok I4 ea' c n l' rz fun s5 I5 => ⟨σ, _, I5, q4⟩
def rAdd : V → V → Hp → VK → Prop := fun x y H Q => ∃ i j, x = .int i ∧ y = .int j ∧ Q (.int (i + j)) H
def rSub : V → V → Hp → VK → Prop := fun x y H Q => ∃ i j, x = .int i ∧ y = .int j ∧ Q (.int (i - j)) H
theorem in_add : InOp X .Add rAdd := by
  rintro pins s σ H x y u v Q I rx ry ⟨i, j, rfl, rfl, q⟩
  obtain ⟨t, rfl⟩ := (show ∃ t, u = Value.int i t from rx)
  obtain ⟨t', rfl⟩ := (show ∃ t', v = Value.int j t' from ry)
  exact PyProof.Rows.iadd_int ⟨.int (i + j), H, I.tok _, ⟨_, rfl⟩, q⟩
theorem in_sub : InOp X .Sub rSub := by
  rintro pins s σ H x y u v Q I rx ry ⟨i, j, rfl, rfl, q⟩
  obtain ⟨t, rfl⟩ := (show ∃ t, u = Value.int i t from rx)
  obtain ⟨t', rfl⟩ := (show ∃ t', v = Value.int j t' from ry)
  exact PyProof.Rows.isub_int ⟨.int (i - j), H, I.tok _, ⟨_, rfl⟩, q⟩

/-- what is between an instance and its method: the tree of a method call -/
theorem methcall_of {pl : Sem Bool} {m : Str} {apos : Pos} {args : List Expr} {pins : List (Addr × Obj)} {s : Shared} {σ : St} {H : Hp} {Q : Value → Shared → Prop} {te : TE} (he : PE X e te) (I : Inv X pins σ H s)
    (h : te σ H fun x H1 => ∃ a C dx fs g, x = .ref a ∧ H1 a = some (.ins C dx fs) ∧ Cls X.K C ∧ Meth X.K C m g ∧ fs.lookup m = none ∧
      ∀ s1, Inv X pins σ H1 s1 → wpAny (model X.prog X.w) X.A (callWith pos (.ref g) [.ref a] (backTo pos (starEach args X.env)) (backToKw pos (keywordEach [] X.env))) Q X.xe s1)
    (ht : eval (.Call (.Attribute e m apos) args [] pos) X.env = (do
      let ov ← eval e X.env
      standAt apos.atName
      let (f, first) ← holding [ov] (getMethod ov m pl)
      callWith pos f first (backTo pos (starEach args X.env)) (backToKw pos (keywordEach [] X.env)))) :
    wpAny (model X.prog X.w) X.A (eval (.Call (.Attribute e m apos) args [] pos) X.env) Q X.xe s := by
  refine PySem.W.methodCall_KW (pl := pl) (thn (he pins s σ H _ I h) fun u s1 ⟨x, H1, I1, rx, a, C, dx, fs, g, ex, ea, c, k, l, q⟩ => ?_) ht
  subst ex
  obtain rfl : u = Value.ref a := rx
  exact getmeth_ok I1 ea c k l (q s1 I1)
end

/-! ### isinstance -/
section
variable {X : Cx} {pins : List (Addr × Obj)} {σ : St} {H : Hp} {s : Shared} {A : Around} {E : Value → Shared → Prop} {Q : Value → Shared → Prop} {c : Value} {b : Bool}
/-- the type of a value, as the fragment's deciders take it; for an instance its class -/
inductive TyOf (K : PySem.W.Frag) (H : Hp) : V → Value → Prop where
  | non : TyOf K H .non (.type "NoneType")
  | bl (x : Bool) : TyOf K H (.bl x) (.type "bool")
  | int (i : Int) : TyOf K H (.int i) (.type "int")
  | str (x : Str) : TyOf K H (.str x) (.type "str")
  | flt (x : UInt64) : TyOf K H (.flt x) (.type "float")
  | lst {a : Addr} {xs : List V} (e : H a = some (.lst xs)) : TyOf K H (.ref a) (.type "list")
  | frz {a : Addr} {o : Obj} {xs : List V} (e : H a = some (.frz o (.lst xs))) : TyOf K H (.ref a) (.type "list")
  | tup {a : Addr} {xs : List V} (e : H a = some (.tup xs)) : TyOf K H (.ref a) (.type "tuple")
  | dK {a : Addr} {kvs : List (Key × V)} (e : H a = some (.dK kvs)) : TyOf K H (.ref a) (.type "dict")
  | dT {a : Addr} {kvs : List (List Key × V)} (e : H a = some (.dT kvs)) : TyOf K H (.ref a) (.type "dict")
  | ins {a C dx : Addr} {fs : List (Str × V)} (e : H a = some (.ins C dx fs)) (cl : Cls K C) (ha : PySem.W.findIn K (.ref C) "__class__" = some (some (.builtin "object.__class__")))
      (hn : PySem.W.specialIn K (.builtin "object.__class__") "__get__" = some (some (.builtin "getset_descriptor.__get__"))) (htk : PySem.W.takesIn K (.builtin "object.__class__") = some true)
      (hm : PySem.W.mroIn K C (.type "object") = some true) : TyOf K H (.ref a) (.ref C)
/-- isinstance(x, c) for one class c, a built-in or an own one: kitOne's answer -/
theorem isinst_ok {x : V} {u t : Value} (I : Inv X pins σ H s) (rx : RelV x u) (ty : TyOf X.K H x t) (e : PySem.W.kitOne X.K t c = some b) (h : ∀ tk, Q (.bool b) { s with toks := tk }) :
    wpAny (model X.prog X.w) A (call (.builtin "isinstance") [u, c]) Q E s := by
  cases ty with
  | non => cases (show u = Value.none from rx); exact PySem.W.kia_one PySem.W.kitx_none I.kIn True.intro e (fun z => nomatch z) h
  | bl y => cases (show u = Value.bool y from rx); exact PySem.W.kia_one PySem.W.kitx_bool I.kIn True.intro e (fun z => nomatch z) h
  | int i => obtain ⟨t, q⟩ := (show ∃ t, u = Value.int i t from rx); cases q; exact PySem.W.kia_one PySem.W.kitx_int I.kIn True.intro e (fun z => nomatch z) h
  | str y => obtain ⟨t, q⟩ := (show ∃ t, u = Value.str y t from rx); cases q; exact PySem.W.kia_one PySem.W.kitx_str I.kIn True.intro e (fun z => nomatch z) h
  | flt y => obtain ⟨t, q⟩ := (show ∃ t, u = Value.float y t from rx); cases q; exact PySem.W.kia_one PySem.W.kitx_float I.kIn True.intro e (fun z => nomatch z) h
  | @lst a xs ea =>
    cases (show u = Value.ref a from rx)
    obtain ⟨_, _, n, _, h1⟩ := (show ObjOk X.prog X.w H s.heap a (.lst xs) from I.hok a _ ea)
    exact PySem.W.kia_one PySem.W.kitx_list I.kIn ⟨_, h1, rfl⟩ e (fun z => nomatch z) h
  | @frz a ob xs ea =>
    cases (show u = Value.ref a from rx)
    obtain ⟨_, _, _, n, _, h1⟩ := (show ObjOk X.prog X.w H s.heap a (.frz ob (.lst xs)) from I.hok a _ ea)
    exact PySem.W.kia_one PySem.W.kitx_list I.kIn ⟨_, h1, rfl⟩ e (fun z => nomatch z) h
  | @tup a xs ea =>
    cases (show u = Value.ref a from rx)
    obtain ⟨_, _, _, p⟩ := (show ObjOk X.prog X.w H s.heap a (.tup xs) from I.hok a _ ea)
    obtain ⟨o, h1, h2, _⟩ := p
    exact PySem.W.kia_one PySem.W.kitx_tuple I.kIn ⟨o, h1, h2⟩ e (fun z => nomatch z) h
  | @dK a kvs ea =>
    cases (show u = Value.ref a from rx)
    obtain ⟨_, _, vs, _, p⟩ := (show ObjOk X.prog X.w H s.heap a (.dK kvs) from I.hok a _ ea)
    obtain ⟨o, es, ep, h1, h2, _⟩ := p
    exact PySem.W.kia_one PySem.W.kitx_dict I.kIn ⟨o, h1, h2.1⟩ e (fun z => nomatch z) h
  | @dT a kvs ea =>
    cases (show u = Value.ref a from rx)
    obtain ⟨_, _, xs, _, o, es, ep, h1, h2, _⟩ := (show ObjOk X.prog X.w H s.heap a (.dT kvs) from I.hok a _ ea)
    exact PySem.W.kia_one PySem.W.kitx_dict I.kIn ⟨o, h1, h2.1⟩ e (fun z => nomatch z) h
  | @ins a C dx fs ea cl ha hn htk hm =>
    cases (show u = Value.ref a from rx)
    obtain ⟨mA, O, _⟩ := ins_get I.hok ea
    obtain ⟨od, J, _⟩ := O.look
    exact PySem.W.kia_one (PySem.W.kitx_own (cl.get _) cl.hd ha hn htk hm) I.kIn J e (fun z => nomatch z) h
end
end L2

namespace L2
open PySem PySem.Spec PyProof.Rows

/-! ### room -/
structure Room (k : Nat) (A : Around) : Prop where
  hd : A.handled = none
  dp : A.depth + 3 * k + 5 < recursionLimit
  un : A.units + 16 * k + 200 < cLine
theorem Room.mono {j k : Nat} {A : Around} (r : Room k A) (h : j ≤ k) : Room j A := ⟨r.hd, by have := r.dp; omega, by have := r.un; omega⟩
theorem Room.deeper {k : Nat} {A : Around} (r : Room (k + 1) A) (env : Env) : Room k (A.deeper env) :=
  ⟨r.hd, by have := r.dp; show A.depth + 1 + 3 * k + 5 < _; omega, by have := r.un; show A.units + 3 + 16 * k + 200 < _; omega⟩
theorem Room.in1 {k : Nat} {A : Around} (r : Room (k + 1) A) : Room k A.in1 :=
  ⟨r.hd, by have := r.dp; show A.depth + 3 * k + 5 < _; omega, by have := r.un; show A.units + 1 + 16 * k + 200 < _; omega⟩
theorem make_depth {A : Around} {C : Addr} {us : List Value} {kw : List (Str × Value)} : (A.under (.builtin "type.__call__" ⟨.ref C :: us, kw⟩)).depth = A.depth + 1 := by
  first | rfl | simp [Around.under, Code.weight, Code.isCreation, Code.isGuard, Code.isCaller, Code.frames, Code.isFrame, guardIds]
theorem make_units {A : Around} {C : Addr} {us : List Value} {kw : List (Str × Value)} : (A.under (.builtin "type.__call__" ⟨.ref C :: us, kw⟩)).units = A.units + 1 := by
  first | rfl | simp [Around.under, Code.cUnits, Code.frames, Code.isFrame]
theorem Room.make {k : Nat} {A : Around} (r : Room (k + 1) A) (C : Addr) (us : List Value) (kw : List (Str × Value)) : Room k (A.under (.builtin "type.__call__" ⟨.ref C :: us, kw⟩)) :=
  ⟨r.hd, by have := r.dp; rw [make_depth]; omega, by have := r.un; rw [make_units]; omega⟩
theorem Room.depth {k : Nat} {A : Around} (r : Room k A) : A.depth < recursionLimit := by have := r.dp; omega
theorem Room.units {k : Nat} {A : Around} (r : Room k A) : A.units + 64 < cLine := by have := r.un; omega
theorem Room.units0 {k : Nat} {A : Around} (r : Room k A) : A.units < cLine := by have := r.un; omega

/-! ### argument lists and displays -/
def tNil : TA := fun _ H Q => Q [] H
def tCons (ta : TE) (tr : TA) : TA := fun σ H Q => ta σ H fun x H1 => tr σ H1 fun xs H2 => Q (x :: xs) H2
section
variable {X : Cx} {e : Expr} {es : List Expr} {te : TE} {t : TA} {pos : Pos}
theorem pa_nil : PA X [] tNil := fun _ _ _ _ H Q I h => Calls.spliced_nil ⟨[], H, I, .nil, h⟩
theorem pa_cons (ha : PE X e te) (hr : PA X es t) (hs : starEach (e :: es) X.env = (false, eval e X.env) :: starEach es X.env := by rfl) : PA X (e :: es) (tCons te t) := by
  intro pos pins s σ H Q I h
  rw [hs]
  show wpAny _ _ (spliced ((false, eval e X.env) :: backTo pos (starEach es X.env))) _ _ s
  refine Calls.spliced_cons (thn (ha pins s σ H _ I h) fun u s1 ⟨x, H1, I1, r1, q1⟩ => ?_)
  exact thn (hr pos pins s1 σ H1 _ I1 q1) fun us s2 ⟨xs, H2, I2, r2, q2⟩ => ⟨x :: xs, H2, I2, .cons r1 r2, q2⟩

/-- a tuple, a list of written items -/
def tTup (t : TA) : TE := fun σ H Q => t σ H fun xs H1 => xs.length ≤ sizeLine ∧ ∀ p, H1 p = none → Q (.ref p) (upd H1 p (.tup xs))
def tLst (t : TA) : TE := fun σ H Q => t σ H fun xs H1 => xs.length ≤ sizeLine ∧ ∀ p, H1 p = none → Q (.ref p) (upd H1 p (.lst xs))
theorem pe_tup {x1} (h : PA X es t) : PE X (.Tuple es x1 pos) (tTup t) := by
  intro pins s σ H Q I hq
  refine wpAny_Tuple_spliced (thn (h pos pins s σ H _ I hq) fun us s1 ⟨xs, H1, I1, r, z, q⟩ => ⟨by rw [← r.length]; exact z, ?_⟩)
  have hf : H1 s1.heap.objs.size = none := I1.hok.fresh (Nat.le_refl _)
  refine ⟨.ref s1.heap.objs.size, upd H1 s1.heap.objs.size (.tup xs), I1.laid (t' := s1.toks) (fun b u e => Heap.get?_push_of_some _ e) (Nat.le_refl _) ?_, rfl, q _ hf⟩
  exact ⟨z, us, r, ⟨_, Heap.get?_push_size _ rfl, rfl, _, rfl⟩⟩
theorem pe_lst (h : PA X es t) : PE X (.List es pos) (tLst t) := by
  intro pins s σ H Q I hq
  refine wpAny_List_spliced (thn (h pos pins s σ H _ I hq) fun us s1 ⟨xs, H1, I1, r, z, q⟩ => ⟨by rw [← r.length]; exact z, ?_⟩)
  have hf : H1 s1.heap.objs.size = none := I1.hok.fresh (Nat.le_refl _)
  refine ⟨.ref s1.heap.objs.size, upd H1 s1.heap.objs.size (.lst xs), I1.laid (t' := s1.toks) (fun b u e => Heap.get?_push_of_some _ e) (Nat.le_refl _) ?_, rfl, q _ hf⟩
  exact ⟨z, us, 0, r, Heap.get?_push_size _ rfl⟩
end

/-! ### what a def promises -/
/-- a def's promise: the bound arguments in the parameters' order, the heap, the wanted end, the wanted exception -/
abbrev Sp := List V → Hp → VK → XK → Prop
/-- how an exception lies behind a call (file 08 gives it): the callers' frames, abstract heap and state ahead of the call, the wish, the exception, the state -/
abbrev CXT := List Env → Hp → Shared → XK → Value → Shared → Prop

/-- the state at a call -/
structure Env0 (P : Program) (w : World) (K : PySem.W.Frag) (mg : Str → Option Value) (base : Heap) (A : Around) (outer : List Env) (s : Shared) (H : Hp) : Prop where
  frames : A.frames = some outer
  mod : Mod K mg base
  bs : ∀ b o, base.get? b = some o → s.heap.get? b = some o ∧ H b = none
  bsz : base.objs.size ≤ s.heap.objs.size
  funs : s.heap.FunFrames base outer
  frf : ∀ b ∈ frs outer, H b = none
  hok : HOk P w H s.heap
  bare : AllBare s.gens
/-- a call's end -/
def CE (outer : List Env) (P : Program) (w : World) (H : Hp) (s : Shared) (Q : VK) (u : Value) (s' : Shared) : Prop :=
  ∃ v H', s'.os = s.os ∧ AllBare s'.gens ∧ Un (frs outer) [] H H' s.heap s'.heap ∧ HOk P w H' s'.heap ∧ RelV v u ∧ Q v H'
def CR (CX : CXT) (outer : List Env) (P : Program) (w : World) (H : Hp) (s : Shared) (Q : VK) (E : XK) (r : Result) (s' : Shared) : Prop :=
  match r with
  | .ok (.ret u) => CE outer P w H s Q u s'
  | .ok _ => False
  | .error e => CX outer H s E e s'
structure FnOk (P : Program) (w : World) (K : PySem.W.Frag) (mg : Str → Option Value) (base : Heap) (CX : CXT) (k : Nat) (f : Addr) (fd : FuncData) (ps : List Str) (sp : Sp) : Prop where
  len : ∀ vs H Q E, sp vs H Q E → vs.length = ps.length
  run : ∀ (A : Around) (outer : List Env) (s : Shared) (H : Hp) (args : Args) (us : List Value) (vs : List V) (Q : VK) (E : XK), Room k A → Env0 P w K mg base A outer s H → BindsTo s fd args (ps.zip us) → Vals vs us → sp vs H Q E →
    codeAny (model P w) A (.call (.ref f) args) (CR CX outer P w H s Q E) s
theorem FnOk.mono {P : Program} {w : World} {K : PySem.W.Frag} {mg : Str → Option Value} {base : Heap} {CX : CXT} {j k : Nat} {f : Addr} {fd : FuncData} {ps : List Str} {sp : Sp} (F : FnOk P w K mg base CX j f fd ps sp) (h : j ≤ k) :
    FnOk P w K mg base CX k f fd ps sp := ⟨F.len, fun A outer s H args us vs Q E hr => F.run A outer s H args us vs Q E (hr.mono h)⟩
/-- a weaker promise -/
theorem FnOk.imp {P : Program} {w : World} {K : PySem.W.Frag} {mg : Str → Option Value} {base : Heap} {CX : CXT} {k : Nat} {f : Addr} {fd : FuncData} {ps : List Str} {sp sp' : Sp} (F : FnOk P w K mg base CX k f fd ps sp)
    (h : ∀ vs H Q E, sp' vs H Q E → sp vs H Q E) : FnOk P w K mg base CX k f fd ps sp' :=
  ⟨fun vs H Q E q => F.len vs H Q E (h _ _ _ _ q), fun A outer s H args us vs Q E hr he hb hv hs => F.run A outer s H args us vs Q E hr he hb hv (h _ _ _ _ hs)⟩

theorem Env0.make {P : Program} {w : World} {K : PySem.W.Frag} {mg : Str → Option Value} {base : Heap} {A : Around} {outer : List Env} {s : Shared} {H : Hp} (e : Env0 P w K mg base A outer s H) (C : Addr) (us : List Value) (kw : List (Str × Value)) :
    Env0 P w K mg base (A.under (.builtin "type.__call__" ⟨.ref C :: us, kw⟩)) outer s H := ⟨by first | exact e.frames | (simpa [Around.under, Code.envs, Code.isFrame, pushEnvs] using e.frames), e.mod, e.bs, e.bsz, e.funs, e.frf, e.hok, e.bare⟩
theorem Env0.in1 {P : Program} {w : World} {K : PySem.W.Frag} {mg : Str → Option Value} {base : Heap} {A : Around} {outer : List Env} {s : Shared} {H : Hp} (e : Env0 P w K mg base A outer s H) :
    Env0 P w K mg base A.in1 outer s H := ⟨e.frames, e.mod, e.bs, e.bsz, e.funs, e.frf, e.hok, e.bare⟩

section
variable {X : Cx} {pins : List (Addr × Obj)} {σ : St} {H : Hp} {s s' : Shared}
/-- from a body: what a callee wants -/
theorem Inv.env0 (I : Inv X pins σ H s) : Env0 X.prog X.w X.K X.mg X.base X.A X.stack s H :=
  ⟨I.ok.frames, I.ok.mod, I.bs, Nat.le_trans I.ok.bsz I.sz, I.stack, I.stkFree, I.hok, I.bare⟩
/-- behind a call -/
theorem Inv.after {Q : VK} {u : Value} (I : Inv X pins σ H s) (h : CE X.stack X.prog X.w H s Q u s') : EP X pins σ Q u s' := by
  obtain ⟨v, H', os, bare, un, hok, r, q⟩ := h
  obtain ⟨hh, g, d, t, os'⟩ := s'
  obtain rfl : os' = s.os := os
  exact ⟨v, H', I.call (h' := hh) (g' := g) (d' := d) (t' := t) (ch := []) un hok bare (fun b z => absurd z (by simp)), r, q⟩
end

/-! ### calls -/
/-- f(..): the written arguments, then the defaults dvs; E: what is wanted of an exception -/
def tCall (sp : Sp) (dvs : List V) (E : XK) (t : TA) : TE := fun σ H Q => t σ H fun vs H1 => sp (vs ++ dvs) H1 Q E
/-- o.m(..) of an instance of the class at C -/
def tMeth (C : Addr) (m : Str) (sp : Sp) (dvs : List V) (E : XK) (ta : TE) (t : TA) : TE := fun σ H Q => ta σ H fun x H1 => ∃ a dx fs, x = .ref a ∧ H1 a = some (.ins C dx fs) ∧ fs.lookup m = none ∧
  t σ H1 fun vs H2 => sp (x :: (vs ++ dvs)) H2 Q E
/-- C(..): a new instance and its dict, then __init__ -/
def tMake (C : Addr) (sp : Sp) (dvs : List V) (E : XK) (t : TA) : TE := fun σ H Q => t σ H fun vs H1 => ∀ x dx, H1 x = none → H1 dx = none → dx ≠ x →
  sp (.ref x :: (vs ++ dvs)) (upd (upd H1 dx (.own x)) x (.ins C dx [])) (fun v H2 => v = .non ∧ Q (.ref x) H2) E

/-- how the parameters are bound: us the positional arguments, kw the keywords' values by name, ds the defaults that fill up -/
def Binds (K : PySem.W.Frag) (fd : FuncData) (ps : List Str) (ds : List Value) : Prop :=
  ∀ (s : Shared) (us : List Value), K.In s.heap → (us ++ ds).length = ps.length → BindsTo s fd ⟨us, []⟩ (ps.zip (us ++ ds))
/-- every parameter is given -/
theorem Binds.all {K : PySem.W.Frag} {fd : FuncData} {ps : List Str} (h : ∀ us : List Value, us.length = ps.length → bindArgs fd ⟨us, []⟩ = pure (ps.zip us)) : Binds K fd ps [] := fun s us _ hl => by
  rw [List.append_nil] at hl ⊢
  exact .of_eq (h us hl)

/-- an exception of a callee reaches what this body wants of exceptions -/
def Passes (CX : CXT) (X : Cx) (E : XK) : Prop := ∀ (pins : List (Addr × Obj)) (σ : St) (H : Hp) (s : Shared) (e : Value) (s' : Shared), Inv X pins σ H s → CX X.stack H s E e s' → X.xe e s'

section
variable {X : Cx} {CX : CXT} {k : Nat} {f C : Addr} {fd : FuncData} {ps : List Str} {sp : Sp} {dvs : List V} {ds : List Value} {E : XK} {x m : Str} {p pos apos : Pos} {e o : Expr} {es : List Expr} {ta : TE} {t : TA}

/-- the callee runs -/
theorem run_fn {pins : List (Addr × Obj)} {σ : St} {H : Hp} {s : Shared} {Q : VK} {us : List Value} {vs : List V} (F : FnOk X.prog X.w X.K X.mg X.base CX k f fd ps sp) (hr : Room k X.A) (hb : Binds X.K fd ps ds) (hd : Vals dvs ds) (hx : Passes CX X E)
    (I : Inv X pins σ H s) (r : Vals vs us) (h : sp (vs ++ dvs) H Q E) : wpAny (model X.prog X.w) X.A (call (.ref f) us) (EP X pins σ Q) X.xe s := by
  have r2 : Vals (vs ++ dvs) (us ++ ds) := r.append hd
  have hl : (us ++ ds).length = ps.length := by rw [← r2.length]; exact F.len _ _ _ _ h
  refine wpAny_call (codeAny_mono (F.run X.A X.stack s H ⟨us, []⟩ (us ++ ds) (vs ++ dvs) Q E hr I.env0 (hb s us I.kIn hl) r2 h) fun r s' hq => ?_)
  cases r with
  | error e => exact hx pins σ H s e s' I hq
  | ok fl =>
    cases fl with
    | ret u => exact I.after hq
    | next => exact False.elim hq
    | brk => exact False.elim hq
    | cont => exact False.elim hq

theorem pe_call (F : FnOk X.prog X.w X.K X.mg X.base CX k f fd ps sp) (hr : Room k X.A) (hg : Gl X x) (hm : X.mg x = some (.ref f)) (hk : PySem.W.keepIn X.K (.ref f) = true) (hb : Binds X.K fd ps ds) (hd : Vals dvs ds) (hx : Passes CX X E)
    (ha : PA X (e :: es) t) (hdb : (x == ("__debug__" : Str)) = false := by decide) (he : starEach (e :: es) X.env = (false, eval e X.env) :: starEach es X.env := by rfl) (hpl : (backTo pos (starEach es X.env)).any (·.1) = false := by rfl) :
    PE X (.Call (.Name x p) (e :: es) [] pos) (tCall sp dvs E t) := by
  intro pins s σ H Q I h
  refine wpAny_Call_Name_kw (ld_glob I hg hm ?_ hdb)
  refine PySem.W.callWith_K (h₀ := X.base) I.ok.mod.kin hk (thn (ha pos pins s σ H _ I h) fun us s1 ⟨vs, H1, I1, r, q⟩ => ⟨I1.kIn, ?_⟩) he hpl
  exact run_fn F hr hb hd hx I1 r q
theorem pe_call0 (F : FnOk X.prog X.w X.K X.mg X.base CX k f fd ps sp) (hr : Room k X.A) (hg : Gl X x) (hm : X.mg x = some (.ref f)) (hk : PySem.W.keepIn X.K (.ref f) = true) (hb : Binds X.K fd ps ds) (hd : Vals dvs ds) (hx : Passes CX X E)
    (hdb : (x == ("__debug__" : Str)) = false := by decide) : PE X (.Call (.Name x p) [] [] pos) (tCall sp dvs E tNil) := by
  intro pins s σ H Q I h
  refine wpAny_Call_Name_kw (ld_glob I hg hm ?_ hdb)
  exact PySem.W.callWith_K0 I.kIn hk (run_fn (us := []) F hr hb hd hx I .nil h)

/-- o.m(e, ..) -/
theorem pe_meth {pl : Sem Bool} (he : PE X o ta) (c : Cls X.K C) (hm : Meth X.K C m f) (F : FnOk X.prog X.w X.K X.mg X.base CX k f fd ps sp) (hr : Room k X.A) (hb : Binds X.K fd ps ds) (hd : Vals dvs ds) (hx : Passes CX X E) (ha : PA X (e :: es) t)
    (hst : starEach (e :: es) X.env = (false, eval e X.env) :: starEach es X.env := by rfl) (hpl : (backTo pos (starEach es X.env)).any (·.1) = false := by rfl)
    (ht : eval (.Call (.Attribute o m apos) (e :: es) [] pos) X.env = (do
      let ov ← eval o X.env
      standAt apos.atName
      let (f, first) ← holding [ov] (getMethod ov m pl)
      callWith pos f first (backTo pos (starEach (e :: es) X.env)) (backToKw pos (keywordEach [] X.env))) := by rfl) :
    PE X (.Call (.Attribute o m apos) (e :: es) [] pos) (tMeth C m sp dvs E ta t) := by
  intro pins s σ H Q I h
  refine PySem.W.methodCall_KW (pl := pl) (thn (he pins s σ H _ I h) fun u s1 ⟨x, H1, I1, rx, a, dx, fs, ex, ea, l, q⟩ => ?_) ht
  subst ex
  obtain rfl : u = Value.ref a := rx
  refine getmeth_ok I1 ea c hm l ?_
  refine PySem.W.callWith_K (first := [.ref a]) (h₀ := X.base) I.ok.mod.kin hm.kp (thn (ha pos pins s1 σ H1 _ I1 q) fun us s2 ⟨vs, H2, I2, r, q2⟩ => ⟨I2.kIn, ?_⟩) hst hpl
  exact run_fn (us := .ref a :: us) (vs := .ref a :: vs) F hr hb hd hx I2 (.cons rfl r) q2
/-- o.m() -/
theorem pe_meth0 {pl : Sem Bool} (he : PE X o ta) (c : Cls X.K C) (hm : Meth X.K C m f) (F : FnOk X.prog X.w X.K X.mg X.base CX k f fd ps sp) (hr : Room k X.A) (hb : Binds X.K fd ps ds) (hd : Vals dvs ds) (hx : Passes CX X E)
    (ht : eval (.Call (.Attribute o m apos) [] [] pos) X.env = (do
      let ov ← eval o X.env
      standAt apos.atName
      let (f, first) ← holding [ov] (getMethod ov m pl)
      callWith pos f first (backTo pos (starEach [] X.env)) (backToKw pos (keywordEach [] X.env))) := by rfl) :
    PE X (.Call (.Attribute o m apos) [] [] pos) (tMeth C m sp dvs E ta tNil) := by
  intro pins s σ H Q I h
  refine PySem.W.methodCall_KW (pl := pl) (thn (he pins s σ H _ I h) fun u s1 ⟨x, H1, I1, rx, a, dx, fs, ex, ea, l, q⟩ => ?_) ht
  subst ex
  obtain rfl : u = Value.ref a := rx
  refine getmeth_ok I1 ea c hm l ?_
  exact PySem.W.callWith_K0 (first := [.ref a]) I1.kIn hm.kp (run_fn (us := [.ref a]) (vs := [.ref a]) F hr hb hd hx I1 (.cons rfl .nil) q)

/-- what a class must have to be made -/
structure Mk (K : PySem.W.Frag) (C f : Addr) : Prop where
  makes : PySem.W.makesIn K C = true
  init : PySem.W.findIn K (.ref C) "__init__" = some (some (.ref f))
  fn : PySem.W.isFn K (.ref f) = true
  kp : PySem.W.keepIn K (.ref C) = true

theorem run_make {pins : List (Addr × Obj)} {σ : St} {H : Hp} {s : Shared} {Q : VK} {us : List Value} {vs : List V} (M : Mk X.K C f) (F : FnOk X.prog X.w X.K X.mg X.base CX k f fd ps sp) (hr : Room (k + 1) X.A) (hb : Binds X.K fd ps ds) (hd : Vals dvs ds)
    (hx : Passes CX X E) (I : Inv X pins σ H s) (r : Vals vs us)
    (h : ∀ x dx, H x = none → H dx = none → dx ≠ x → sp (.ref x :: (vs ++ dvs)) (upd (upd H dx (.own x)) x (.ins C dx [])) (fun v H2 => v = .non ∧ Q (.ref x) H2) E) :
    wpAny (model X.prog X.w) X.A (call (.ref C) us) (EP X pins σ Q) X.xe s := by
  have hq := h (s.heap.objs.size + 1) s.heap.objs.size (I.hok.fresh (Nat.le_succ _)) (I.hok.fresh (Nat.le_refl _)) (Nat.ne_of_lt (Nat.lt_succ_self _))
  have I2 := Inv.made (C := C) I
  have r2 : Vals (V.ref (s.heap.objs.size + 1) :: (vs ++ dvs)) (Value.ref (s.heap.objs.size + 1) :: (us ++ ds)) := .cons rfl (r.append hd)
  have hl : (Value.ref (s.heap.objs.size + 1) :: us ++ ds).length = ps.length := by
    have e := r2.length
    rw [F.len _ _ _ _ hq] at e
    exact e.symm
  refine wpAny_call (make_map (f := f) I.kIn M.makes M.init (beq_iff_eq.mp M.fn) (codeAny_mono (F.run _ X.stack _ _ ⟨Value.ref (s.heap.objs.size + 1) :: us, []⟩ (Value.ref (s.heap.objs.size + 1) :: (us ++ ds)) _ _ E (hr.make C us [])
    (I2.env0.make C us []) (hb _ (Value.ref (s.heap.objs.size + 1) :: us) I2.kIn hl) r2 hq) fun r s' hq' => ?_))
  cases r with
  | error e => exact hx pins σ _ _ e s' I2 hq'
  | ok fl =>
    cases fl with
    | ret u =>
      obtain ⟨v, H', I3, rv, ev, q3⟩ := I2.after hq'
      subst ev
      exact ⟨rv, ⟨V.ref (s.heap.objs.size + 1), H', I3, rfl, q3⟩⟩
    | next => exact False.elim hq'
    | brk => exact False.elim hq'
    | cont => exact False.elim hq'
theorem pe_make (M : Mk X.K C f) (F : FnOk X.prog X.w X.K X.mg X.base CX k f fd ps sp) (hr : Room (k + 1) X.A) (hg : Gl X x) (hm : X.mg x = some (.ref C)) (hb : Binds X.K fd ps ds) (hd : Vals dvs ds) (hx : Passes CX X E)
    (ha : PA X (e :: es) t) (hdb : (x == ("__debug__" : Str)) = false := by decide) (he : starEach (e :: es) X.env = (false, eval e X.env) :: starEach es X.env := by rfl) (hpl : (backTo pos (starEach es X.env)).any (·.1) = false := by rfl) :
    PE X (.Call (.Name x p) (e :: es) [] pos) (tMake C sp dvs E t) := by
  intro pins s σ H Q I h
  refine wpAny_Call_Name_kw (ld_glob I hg hm ?_ hdb)
  refine PySem.W.callWith_K (h₀ := X.base) I.ok.mod.kin M.kp (thn (ha pos pins s σ H _ I h) fun us s1 ⟨vs, H1, I1, r, q⟩ => ⟨I1.kIn, ?_⟩) he hpl
  exact run_make M F hr hb hd hx I1 r q
theorem pe_make0 (M : Mk X.K C f) (F : FnOk X.prog X.w X.K X.mg X.base CX k f fd ps sp) (hr : Room (k + 1) X.A) (hg : Gl X x) (hm : X.mg x = some (.ref C)) (hb : Binds X.K fd ps ds) (hd : Vals dvs ds) (hx : Passes CX X E)
    (hdb : (x == ("__debug__" : Str)) = false := by decide) : PE X (.Call (.Name x p) [] [] pos) (tMake C sp dvs E tNil) := by
  intro pins s σ H Q I h
  refine wpAny_Call_Name_kw (ld_glob I hg hm ?_ hdb)
  exact PySem.W.callWith_K0 I.kIn M.kp (run_make (us := []) M F hr hb hd hx I .nil h)
end

/-! ### keywords -/
/-- the values of the keywords, from the left -/
def PK (X : Cx) (kws : List Keyword) (t : TA) : Prop :=
  ∀ (pos : Pos) (pins : List (Addr × Obj)) (s : Shared) (σ : St) (H : Hp) (Q : List V → Hp → Prop), Inv X pins σ H s → t σ H Q → wpAny (model X.prog X.w) X.A (evalAll ((backToKw pos (keywordEach kws X.env)).map (·.2))) (AP X pins σ Q) X.xe s
section
variable {X : Cx} {CX : CXT} {k : Nat} {f C : Addr} {fd : FuncData} {ps ks : List Str} {sp : Sp} {E : XK} {x m : Str} {p pos apos kpos : Pos} {e o : Expr} {es : List Expr} {kws : List Keyword} {te ta : TE} {t tk : TA} {nm : Option Str}
theorem pk_nil : PK X [] tNil := fun _ _ _ _ H Q I h => wpAny_evalAll_nil ⟨[], H, I, .nil, h⟩
theorem pk_cons (ha : PE X e te) (hr : PK X kws t) : PK X (⟨nm, e, kpos⟩ :: kws) (tCons te t) := by
  intro pos pins s σ H Q I h
  show wpAny _ _ (evalAll ((do let v ← eval e X.env; standAt pos; pure v) :: (backToKw pos (keywordEach kws X.env)).map (·.2))) _ _ s
  refine wpAny_evalAll_cons (wpAny_bind (thn (ha pins s σ H _ I h) fun u s1 ⟨x, H1, I1, r1, q1⟩ => wpAny_bind (wpAny_standAt (wpAny_pure ?_))))
  exact thn (hr pos pins s1 σ H1 _ I1 q1) fun us s2 ⟨xs, H2, I2, r2, q2⟩ => ⟨x :: xs, H2, I2, .cons r1 r2, q2⟩

/-- how a call with keywords binds: g puts the positional values us and the keywords' values ws (names ks) in the parameters' order, defaults among them -/
structure KBinds (K : PySem.W.Frag) (fd : FuncData) (ps ks : List Str) (g : List Value → List Value → List Value) (gV : List V → List V → List V) : Prop where
  to : ∀ (s : Shared) (us ws : List Value), K.In s.heap → (g us ws).length = ps.length → BindsTo s fd ⟨us, ks.zip ws⟩ (ps.zip (g us ws))
  rel : ∀ {vs : List V} {us : List Value} {zs : List V} {ws : List Value}, Vals vs us → Vals zs ws → Vals (gV vs zs) (g us ws)
def tCallK (sp : Sp) (gV : List V → List V → List V) (E : XK) (t tk : TA) : TE := fun σ H Q => t σ H fun vs H1 => tk σ H1 fun zs H2 => sp (gV vs zs) H2 Q E
variable {g : List Value → List Value → List Value} {gV : List V → List V → List V}
theorem run_fnk {pins : List (Addr × Obj)} {σ : St} {H : Hp} {s : Shared} {Q : VK} {us ws : List Value} {vs zs : List V} (F : FnOk X.prog X.w X.K X.mg X.base CX k f fd ps sp) (hr : Room k X.A) (hb : KBinds X.K fd ps ks g gV) (hx : Passes CX X E)
    (I : Inv X pins σ H s) (r : Vals vs us) (rz : Vals zs ws) (h : sp (gV vs zs) H Q E) : wpAny (model X.prog X.w) X.A (call (.ref f) us (ks.zip ws)) (EP X pins σ Q) X.xe s := by
  have r2 := hb.rel r rz
  have hl : (g us ws).length = ps.length := by rw [← r2.length]; exact F.len _ _ _ _ h
  refine wpAny_call (codeAny_mono (F.run X.A X.stack s H ⟨us, ks.zip ws⟩ (g us ws) (gV vs zs) Q E hr I.env0 (hb.to s us ws I.kIn hl) r2 h) fun r s' hq => ?_)
  cases r with
  | error e => exact hx pins σ H s e s' I hq
  | ok fl =>
    cases fl with
    | ret u => exact I.after hq
    | next => exact False.elim hq
    | brk => exact False.elim hq
    | cont => exact False.elim hq
/-- f(e, .., k = v, ..) -/
theorem pe_callK (F : FnOk X.prog X.w X.K X.mg X.base CX k f fd ps sp) (hr : Room k X.A) (hg : Gl X x) (hm : X.mg x = some (.ref f)) (hk : PySem.W.keepIn X.K (.ref f) = true) (hb : KBinds X.K fd ps ks g gV) (hx : Passes CX X E)
    (ha : PA X (e :: es) t) (hkw : PK X kws tk) (hall : (backToKw pos (keywordEach kws X.env)).all (·.1.isSome) = true := by rfl) (hks : (backToKw pos (keywordEach kws X.env)).filterMap (·.1) = ks := by rfl)
    (hdb : (x == ("__debug__" : Str)) = false := by decide) (he : starEach (e :: es) X.env = (false, eval e X.env) :: starEach es X.env := by rfl)
    (hpl : ((backTo pos (starEach (e :: es) X.env)).any (·.1) || (backToKw pos (keywordEach kws X.env)).any (·.1.isNone)) = false := by rfl) :
    PE X (.Call (.Name x p) (e :: es) kws pos) (tCallK sp gV E t tk) := by
  intro pins s σ H Q I h
  refine wpAny_Call_Name_kw (ld_glob I hg hm ?_ hdb)
  refine PySem.W.callWith_KW (h₀ := X.base) I.ok.mod.kin hk hall (thn (ha pos pins s σ H _ I h) fun us s1 ⟨vs, H1, I1, r, q⟩ => ?_) hpl he
  refine thn (hkw pos pins s1 σ H1 _ I1 q) fun ws s2 ⟨zs, H2, I2, rz, q2⟩ => ⟨I2.kIn, ?_⟩
  rw [hks]
  exact run_fnk F hr hb hx I2 r rz q2
end

/-! ### a def's body keeps its promise -/
/-- names: the parameters first -/
structure FnScope (N P : List Str) (sc : Scope) : Prop where
  kind : sc.kind = .function
  co : sc.isCoroutine = false
  gen : sc.isGenerator = false
  nd : N.Nodup
  pre : N.take P.length = P
  par : ∀ x ∈ P, sc.names.lookup x = some .local ∨ sc.names.lookup x = some .cell
  nofree : ∀ y ∈ sc.names, y.2 ≠ .free

theorem bindL_out {kindOf : Str → Option NameKind} {x : Str} : ∀ {binds : List (Str × Value)} {m : Str → Option Value}, (∀ v, (x, v) ∉ binds) → bindL kindOf binds m x = m x
  | [], _, _ => rfl
  | (n, v) :: r, m, h => by
    unfold bindL
    rw [bindL_out fun w hw => h w (List.mem_cons_of_mem _ hw)]
    split
    · have : x ≠ n := by rintro rfl; exact h v List.mem_cons_self
      simp [this]
    · rfl
theorem bindC_out {kindOf : Str → Option NameKind} {x : Str} : ∀ {binds : List (Str × Value)} {m : Str → Option Value}, (∀ v, (x, v) ∉ binds) → bindC kindOf binds m x = m x
  | [], _, _ => rfl
  | (n, v) :: r, m, h => by
    unfold bindC
    rw [bindC_out fun w hw => h w (List.mem_cons_of_mem _ hw)]
    split
    · rfl
    · have : x ≠ n := by rintro rfl; exact h v List.mem_cons_self
      simp [this]
theorem bindL_get {kindOf : Str → Option NameKind} {x : Str} {v : Value} : ∀ {P : List Str} {vs : List Value} {i : Nat} {m : Str → Option Value}, P.Nodup → P[i]? = some x → vs[i]? = some v → kindOf x = some .local →
    bindL kindOf (P.zip vs) m x = some v
  | [], _, _, _, _, h, _, _ => by simp at h
  | _ :: _, [], _, _, _, _, h, _ => by simp at h
  | p :: P, w :: vs, 0, m, nd, h1, h2, hk => by
    simp at h1 h2; subst h1; subst h2
    show bindL kindOf ((p, w) :: P.zip vs) m p = _
    unfold bindL
    rw [bindL_out fun v hv => (List.nodup_cons.mp nd).1 (List.of_mem_zip hv).1, if_pos hk]
    simp
  | p :: P, w :: vs, i + 1, m, nd, h1, h2, hk => by
    show bindL kindOf ((p, w) :: P.zip vs) m x = _
    unfold bindL
    exact bindL_get (i := i) (List.nodup_cons.mp nd).2 (by simpa using h1) (by simpa using h2) hk
theorem bindC_get {kindOf : Str → Option NameKind} {x : Str} {v : Value} : ∀ {P : List Str} {vs : List Value} {i : Nat} {m : Str → Option Value}, P.Nodup → P[i]? = some x → vs[i]? = some v → kindOf x ≠ some .local →
    bindC kindOf (P.zip vs) m x = some v
  | [], _, _, _, _, h, _, _ => by simp at h
  | _ :: _, [], _, _, _, _, h, _ => by simp at h
  | p :: P, w :: vs, 0, m, nd, h1, h2, hk => by
    simp at h1 h2; subst h1; subst h2
    show bindC kindOf ((p, w) :: P.zip vs) m p = _
    unfold bindC
    rw [bindC_out fun v hv => (List.nodup_cons.mp nd).1 (List.of_mem_zip hv).1, if_neg hk]
    simp
  | p :: P, w :: vs, i + 1, m, nd, h1, h2, hk => by
    show bindC kindOf ((p, w) :: P.zip vs) m x = _
    unfold bindC
    exact bindC_get (i := i) (List.nodup_cons.mp nd).2 (by simpa using h1) (by simpa using h2) hk

/-- the names' values at the entry -/
def start (N : List Str) (vs : List V) : St := vs.map some ++ List.replicate (N.length - vs.length) none

/-- the context of a def's body, at its entry; an exception leaves the frame, then lies as CX says -/
def cxOf (CX : CXT) (P : Program) (w : World) (K : PySem.W.Frag) (mg : Str → Option Value) (base : Heap) (N : List Str) (qual : Str) (scope : Scope) (f : Addr) (cd : Value) (A : Around) (outer : List Env) (s : Shared) (H : Hp) (E : XK) : Cx where
  prog := P
  w := w
  K := K
  mg := mg
  base := base
  A := A.deeper (envOfC qual scope s.heap.objs.size f cd)
  N := N
  s₀ := s
  H₀ := H
  env := envOfC qual scope s.heap.objs.size f cd
  outer := outer
  stack := envOfC qual scope s.heap.objs.size f cd :: outer
  ex := []
  calm := true
  fn := fun _ => true
  pn := []
  xe := fun e s' => wpAny (model P w) (A.deeper (envOfC qual scope s.heap.objs.size f cd)) (leaving (envOfC qual scope s.heap.objs.size f cd) e) (fun _ s'' => CX outer H s E e s'') (fun e' s'' => CX outer H s E e' s'') s'

theorem cell_has {sc : Scope} {n : Nat} {x : Str} (h : sc.names.lookup x = some .cell) : ∃ c, (cellsFrom n sc.names []).lookup x = some c := by
  have q := PySem.W.cellsFrom_some sc.names n [] (.inl h)
  exact Option.isSome_iff_exists.mp q

theorem inv_start {CX : CXT} {P : Program} {w : World} {K : PySem.W.Frag} {mg : Str → Option Value} {base : Heap} {N ps : List Str} {qual : Str} {scope : Scope} {f : Addr} {cd : Value} {A : Around} {outer : List Env} {s s1 : Shared} {H : Hp} {E : XK} {us : List Value} {vs : List V}
    (S : FnScope N ps scope) (hd : A.handled = none) (e0 : Env0 P w K mg base A outer s H) (hl : vs.length = ps.length) (r : Vals vs us)
    (x : InCallC s s.heap.objs.size (bindL (envOfC qual scope s.heap.objs.size f cd).kindOf (ps.zip us) fun _ => none) (cellsFrom (s.heap.objs.size + 1) scope.names []) (bindC (envOfC qual scope s.heap.objs.size f cd).kindOf (ps.zip us) fun _ => none) s1) :
    Inv (cxOf CX P w K mg base N qual scope f cd A outer s H E) [] (start N vs) H s1 := by
  have hpl : ps.length ≤ N.length := by have := congrArg List.length S.pre; rw [List.length_take] at this; omega
  obtain ⟨h1, tk, rfl, hk⟩ := x.done
  have noA : ∀ b : Addr, b ∉ (cxOf CX P w K mg base N qual scope f cd A outer s H E).ex := fun b z => absurd (show b ∈ ([] : List Addr) from z) (by simp)
  refine ⟨⟨e0.mod, S.kind, rfl, rfl, Nat.le_refl _, fun y z c h1 h2 => ?_, fun y hy => ?_, fun y c _ h => ?_, fun _ => hd, Around.frames_deeper e0.frames, .inr ⟨rfl, rfl⟩, fun b z => absurd z (noA b), e0.bs, e0.bsz, fun b _ _ => noA b, fun b z => absurd z (noA b), e0.funs, e0.frf⟩,
    rfl, e0.bare, Un.kept hk, ⟨_, x.toInCall.ns, fun i y v h1 h2 h3 => ?_⟩, fun y c h => ⟨_, x.cell y c h⟩, e0.hok.fresh (Nat.le_refl _), fun y c h => ?_, fun p hp => absurd (show p ∈ ([] : List (Addr × Obj)) from hp) (by simp), e0.hok.kept hk, ?_⟩
  · exact name_of_addr x.apart (PySem.mem_of_lookup h1) (PySem.mem_of_lookup h2)
  · have hy : scope.names.lookup y = some .cell ∨ scope.names.lookup y = some .free := hy
    rcases hy with hy | hy
    · exact cell_has hy
    · exact absurd rfl (S.nofree _ (PySem.mem_of_lookup hy))
  · exact Nat.le_of_lt (x.above y c (PySem.mem_of_lookup h))
  · have hi : i < vs.length := by
      unfold start at h2
      by_cases hi : i < vs.length
      · exact hi
      · rw [List.getElem?_append_right (by simpa using hi)] at h2
        rw [List.getElem?_replicate] at h2
        split at h2 <;> cases h2
    have ha : vs[i]? = some v := by
      unfold start at h2
      rw [List.getElem?_append_left (by simpa using hi), List.getElem?_map] at h2
      cases e : vs[i]? with
      | none => rw [e] at h2; cases h2
      | some a => rw [e] at h2; cases h2; rfl
    obtain ⟨u, hu, rv⟩ := r.get ha
    have hp : ps[i]? = some y := by
      rw [← S.pre, List.getElem?_take_of_lt (by omega)]; exact h1
    have ndP : ps.Nodup := by rw [← S.pre]; exact S.nd.sublist (List.take_sublist _ _)
    refine ⟨u, rv, ?_⟩
    rcases S.par y (List.mem_of_getElem? hp) with k | k
    · exact .inl ⟨k, bindL_get ndP hp hu k⟩
    · obtain ⟨c, e⟩ := cell_has (n := s.heap.objs.size + 1) k
      refine .inr ⟨.inl k, c, e, ?_⟩
      have q := x.cell y c e
      rw [bindC_get ndP hp hu (by show scope.names.lookup y ≠ _; rw [k]; decide)] at q
      exact q
  · exact e0.hok.fresh (Nat.le_of_lt (x.above y c (PySem.mem_of_lookup h)))
  · unfold start
    show _ = N.length
    rw [List.length_append, List.length_map, List.length_replicate]
    omega

/-- THE RULE: a def (or a method) of the text, by its body. The body's reading t is chosen for each entry; it is run at the parameters' values -/
theorem fn_of {CX : CXT} {P : Program} {w : World} {K : PySem.W.Frag} {mg : Str → Option Value} {base : Heap} {k : Nat} {f : Addr} {name qual : Str} {params : Arguments} {body : List Stmt} {scope : Scope} {dV kV doc pm cdv ct oc : Value} {an od : Option Addr}
    {osl : Array (Option Value)} {N ps : List Str} {sp : Sp} (lk : K.lookup f = some ⟨oc, od, .func (PySem.W.fnOf name qual params body scope dV kV doc pm an cdv ct), osl⟩) (hcd : PySem.W.codeIn K cdv qual = true) (S : FnScope N ps scope)
    (len : ∀ vs H Q E, sp vs H Q E → vs.length = ps.length)
    (hbody : ∀ (A : Around) (outer : List Env) (s : Shared) (H : Hp) (vs : List V) (Q : VK) (E : XK), Room k (A.deeper (envOfC qual scope s.heap.objs.size f cdv)) → sp vs H Q E →
      ∃ t, PSs (cxOf CX P w K mg base N qual scope f cdv A outer s H E) body t ∧ t { nx := fun _ H' => Q .non H', rt := Q } (start N vs) H) :
    FnOk P w K mg base CX (k + 1) f (PySem.W.fnOf name qual params body scope dV kV doc pm an cdv ct) ps sp := by
  refine ⟨len, fun A outer s H args us vs Q E hr e0 hb r hsp => ?_⟩
  have hl := len _ _ _ _ hsp
  have KX : K.In s.heap := e0.mod.kin.keeps fun b o e => (e0.bs b o e).1
  have lim : s.heap.NoLimit := e0.mod.nolimit.keeps fun b o e => (e0.bs b o e).1
  have hkind : ∀ y ∈ ps.zip us, scope.names.lookup y.1 = some .local ∨ (scope.names.lookup y.1 = some .cell ∧ ((cellsFrom (s.heap.objs.size + 1) scope.names []).lookup y.1).isSome = true) := fun ⟨n, v⟩ hy => by
    rcases S.par n (List.of_mem_zip hy).1 with q | q
    · exact .inl q
    · exact .inr ⟨q, PySem.W.cellsFrom_some _ _ _ (.inl q)⟩
  refine codeAny_call_function hr.depth (KX _ _ lk) rfl S.co S.gen rfl (PySem.W.codeRec_of KX hcd) (hb _ _ _ _ ?_)
  refine wpAny_newFunctionEnv_cells S.kind hkind fun env he s1 x => ?_
  subst he
  refine ⟨lim.keeps x.toInCall.keep, codeAny_func ?_⟩
  obtain ⟨t, ht, hq⟩ := hbody A outer s H vs Q E (hr.deeper _) hsp
  have I : Inv (cxOf CX P w K mg base N qual scope f cdv A outer s H E) [] (start N vs) H s1 := inv_start S hr.hd e0 hl r x
  refine wpAny_mono (ht [] s1 (start N vs) H _ I hq) (fun fl s' hs => ?_) fun e s' hs => hs
  have fin : ∀ {σ' : St} {H' : Hp} {v : V} {u : Value}, Inv (cxOf CX P w K mg base N qual scope f cdv A outer s H E) [] σ' H' s' → RelV v u → Q v H' → CE outer P w H s Q u s' :=
    fun {σ' H' v u} J rv q => ⟨v, H', J.os, J.bare, J.base, J.hok, rv, q⟩
  cases fl with
  | ret u =>
    obtain ⟨v, σ', H', J, rv, q⟩ := hs
    exact fin J rv q
  | next =>
    obtain ⟨σ', H', J, q⟩ := hs
    exact fin (v := V.non) (u := Value.none) J rfl q
  | brk =>
    obtain ⟨_, _, _, q⟩ := hs
    exact False.elim q
  | cont =>
    obtain ⟨_, _, _, q⟩ := hs
    exact False.elim q
end L2

namespace L2
open PySem PySem.Spec PyProof.Rows
section
variable {X : Cx} {x : Str} {p pos : Pos} {e : Expr} {es : List Expr} {t : TA} {id T : String} {r : List V → Hp → VK → Prop}

def tCB (r : List V → Hp → VK → Prop) (t : TA) : TE := fun σ H Q => t σ H fun vs H1 => r vs H1 Q
/-- f(e, ..), f a built-in function -/
theorem pe_callB (hc : CallR X (.builtin id) r) (hg : Gl X x) (hm : X.mg x = none) (hv : bootBuiltins x = some (.builtin id)) (ha : PA X (e :: es) t) (hn : x ≠ "__name__" := by decide) (hdb : (x == ("__debug__" : Str)) = false := by decide)
    (he : starEach (e :: es) X.env = (false, eval e X.env) :: starEach es X.env := by rfl) (hpl : (backTo pos (starEach es X.env)).any (·.1) = false := by rfl) : PE X (.Call (.Name x p) (e :: es) [] pos) (tCB r t) := by
  intro pins s σ H Q I h
  refine wpAny_Call_Name_kw (ld_blt I hg hm hv ?_ hn hdb)
  exact PyProof.Rows.callWith_builtin1 (thn (ha pos pins s σ H _ I h) fun us s1 ⟨vs, H1, I1, r1, q1⟩ => hc pins s1 σ H1 vs us Q I1 r1 q1) he hpl
/-- T(e, ..), T a built-in type -/
theorem pe_callTy (hc : CallR X (.type T) r) (hg : Gl X x) (hm : X.mg x = none) (hv : bootBuiltins x = some (.type T)) (ha : PA X (e :: es) t) (hn : x ≠ "__name__" := by decide) (hdb : (x == ("__debug__" : Str)) = false := by decide)
    (he : starEach (e :: es) X.env = (false, eval e X.env) :: starEach es X.env := by rfl) (hpl : (backTo pos (starEach es X.env)).any (·.1) = false := by rfl) : PE X (.Call (.Name x p) (e :: es) [] pos) (tCB r t) := by
  intro pins s σ H Q I h
  refine wpAny_Call_Name_kw (ld_blt I hg hm hv ?_ hn hdb)
  exact PyProof.Rows.callWith_type1 (thn (ha pos pins s σ H _ I h) fun us s1 ⟨vs, H1, I1, r1, q1⟩ => hc pins s1 σ H1 vs us Q I1 r1 q1) he hpl
/-- T() -/
theorem pe_callTy0 (hc : CallR X (.type T) r) (hg : Gl X x) (hm : X.mg x = none) (hv : bootBuiltins x = some (.type T)) (hn : x ≠ "__name__" := by decide) (hdb : (x == ("__debug__" : Str)) = false := by decide) :
    PE X (.Call (.Name x p) [] [] pos) (tCB r tNil) := by
  intro pins s σ H Q I h
  refine wpAny_Call_Name_kw (ld_blt I hg hm hv ?_ hn hdb)
  exact PyProof.Rows.callWith_type0 (hc pins s σ H [] [] Q I .nil h)
end
end L2

namespace HT
open PySem PyProof.Rows

/-- t < u of tuples of ints -/
def lexLt : List Int → List Int → Bool
  | [], [] => false
  | [], _ :: _ => true
  | _ :: _, [] => false
  | x :: xs, y :: ys => if x = y then lexLt xs ys else decide (x < y)
theorem lexLt_cons (x y : Int) (xs ys : List Int) : lexLt (x :: xs) (y :: ys) = if x = y then lexLt xs ys else decide (x < y) := rfl
theorem lexLt_nil_nil : lexLt [] [] = false := rfl
theorem lexLt_nil_cons (y : Int) (ys : List Int) : lexLt [] (y :: ys) = true := rfl
theorem lexLt_cons_nil (x : Int) (xs : List Int) : lexLt (x :: xs) [] = false := rfl

theorem eqAt_int (A : Around) (s : Shared) (a : Int) (t : Tok) (c : Int) (u : Tok) : ∃ e, SeqAt.EqAt A s (.int a t) (.int c u) e ∧ (e = true ↔ a = c) :=
  ⟨(a == c), SeqAt.EqAt.int_int a t c u, by simp⟩
theorem rcLt_int (A : Around) (s : Shared) (a : Int) (t : Tok) (c : Int) (u : Tok) (prog : Program) (w : World) (E : Value → Shared → Prop) (Q : Value → Shared → Prop) (h : Q (.bool (decide (a < c))) s) :
    wpAny (model prog w) A (richCompare .Lt (.int a t) (.int c u)) Q E s :=
  (PyProof.Rows.lt_int h : wpAny (model prog w) A (compareOp .Lt (.int a t) (.int c u)) Q E s)

section
open PySem.SeqAt
open PySem.AutoSeq1 (wpAny_loadPart')
open PySem.MeetsSeq PySem.MeetsSeq2 PySem.MeetsSeq3

theorem tuple_lt_ints (l b : Addr) (items items2 : Array Value) (n n2 : Nat) (dd dd2 : Option Addr) (sl sl2 : Array (Option Value)) (ns ms : List Int) (hi : IntsAre items.toList ns) (hj : IntsAre items2.toList ms) :
    Meets (Builtin.«tuple.__lt__» ⟨[.ref l, .ref b], []⟩)
      (fun _ R s => s.heap.get? l = some { cls := .type "tuple", dict := dd, data := .seq items n, slots := sl } ∧ s.heap.get? b = some { cls := .type "tuple", dict := dd2, data := .seq items2 n2, slots := sl2 } ∧
        R (.ok (.ret (.bool (lexLt ns ms)))) s) :=
  .of_wp fun prog w A R s h => by
    obtain ⟨hp, g, d, tk, os⟩ := s; obtain ⟨hl, hb, h⟩ := h
    have f2 := AutoSeq1.sub_tuple_tuple
    have z1 : items.size = ns.length := by rw [← hi.length]; simp
    have z2 : items2.size = ms.length := by rw [← hj.length]; simp
    wp_walk using wpAny_loadPart' hl, wpAny_loadPart' hb, wpAny_forIn_list _ (fun rest b s' => b.1 = none ∧ s' = ⟨hp, g, d, tk, os⟩ ∧ ∃ (vs ws : List Value) (ns' ms' : List Int), rest = vs.zip ws ∧
      IntsAre vs ns' ∧ IntsAre ws ms' ∧ ns'.length + items2.size = ms'.length + items.size ∧ R (.ok (.ret (.bool (lexLt ns' ms')))) ⟨hp, g, d, tk, os⟩) _
    case turn =>
      rintro ⟨y, x⟩ rest b s' ⟨hb', rfl, vs, ws, ns', ms', hz, hvi, hwi, hlen, hR⟩
      cases hvi with
      | nil => rw [List.zip_nil_left] at hz; cases hz
      | cons a t hvi' =>
        cases hwi with
        | nil => rw [List.zip_nil_right] at hz; cases hz
        | cons c u hwi' =>
          rw [List.zip_cons_cons] at hz
          injection hz with hyx hrest
          injection hyx with hy hx
          subst hy hx
          rw [lexLt_cons] at hR
          simp only [List.length_cons] at hlen
          obtain ⟨e, he, hiff⟩ := eqAt_int A.in1 ⟨hp, g, d, tk, os⟩ a t c u
          refine wpAny_bind (he prog w _ _ ?_)
          cases e with
          | true =>
            rw [if_pos (hiff.mp rfl)] at hR
            wp_walk
            exact ⟨rfl, rfl, _, _, _, _, hrest, hvi', hwi', by omega, hR⟩
          | false =>
            rw [if_neg (fun q => absurd (hiff.mpr q) Bool.false_ne_true)] at hR
            have hri := rcLt_int A.in1 ⟨hp, g, d, tk, os⟩ a t c u prog w
            wp_walk using hri
            exact ⟨_, rfl, by simpa using hR⟩
    case fin =>
      rintro ⟨b1, b2⟩ s' ⟨hb', rfl, vs, ws, ns', ms', hz, hvi, hwi, hlen, hR⟩
      simp only at hb'
      subst hb'
      have hv : lexLt ns' ms' = decide (items.size < items2.size) := by
        cases hvi with
        | nil =>
          cases hwi with
          | nil =>
            simp only [List.length_nil] at hlen
            rw [lexLt_nil_nil]
            exact (decide_eq_false (by omega)).symm
          | cons c u hw =>
            simp only [List.length_nil, List.length_cons] at hlen
            rw [lexLt_nil_cons]
            exact (decide_eq_true (by omega)).symm
        | cons a t hv =>
          cases hwi with
          | nil =>
            simp only [List.length_nil, List.length_cons] at hlen
            rw [lexLt_cons_nil]
            exact (decide_eq_false (by omega)).symm
          | cons c u hw =>
            rw [List.zip_cons_cons] at hz
            cases hz
      rw [hv] at hR
      wp_walk
      exact ⟨_, rfl, by simpa [Builtin.Tuple.tupleCompareSizes] using hR⟩
    case h =>
      exact ⟨rfl, rfl, items.toList, items2.toList, ns, ms, rfl, hi, hj, by omega, h⟩
end

section
variable {prog : Program} {w : World} {A : Around} {E : Value → Shared → Prop} {s : Shared}

theorem lt_tupInts {l b : Addr} {items items2 : Array Value} {ns ms : List Int} {Q : Value → Shared → Prop} (hl : IsTup s.heap l items) (hb : IsTup s.heap b items2) (hi : IntsAre items.toList ns) (hj : IntsAre items2.toList ms)
    (hu : A.units < cLine) (h : Q (.bool (lexLt ns ms)) s) : wpAny (model prog w) A (compareOp .Lt (.ref l) (.ref b)) Q E s := by
  obtain ⟨⟨cls, dd, data, sl⟩, ho, hc, n, hd⟩ := id hl
  obtain ⟨⟨cls2, dd2, data2, sl2⟩, ho2, hc2, n2, hd2⟩ := id hb
  simp only at hc hd hc2 hd2
  subst hc hd hc2 hd2
  exact richCompare_meets_room (op := .Lt) ⟨_, ho, rfl⟩ ⟨_, ho2, rfl⟩ PySem.F.slot_tuple_lt PySem.F.entry_tuple_lt (PySem.F.args_tuple_lt_2 _ _) (tuple_lt_ints l b items items2 n n2 dd dd2 sl sl2 ns ms hi hj)
    ⟨ho, ho2, show Value.bool (lexLt ns ms) ≠ Value.notImplemented ∧ Q (.bool (lexLt ns ms)) s from ⟨(fun x => nomatch x), h⟩⟩ hu

/-- t + u, t not empty -/
theorem cat_tup {t b : Addr} {vs ws : List Value} {Q : Value → Shared → Prop} (ht : IsTup s.heap t vs.toArray) (hb : IsTup s.heap b ws.toArray) (hv : vs ≠ [])
    (h1 : ws = [] → Q (.ref t) s) (h2 : ws ≠ [] → Q (.ref s.heap.objs.size) { s with heap := s.heap.push { cls := .type "tuple", data := .seq (vs ++ ws).toArray } })
    (hsz : vs.length + ws.length ≤ sizeLine) : wpAny (model prog w) A (binaryOp .Add (.ref t) (.ref b)) Q E s := by
  obtain ⟨⟨cls, dd, data, sl⟩, ho, hc, n, hd⟩ := id ht
  obtain ⟨⟨cls2, dd2, data2, sl2⟩, ho2, hc2, n2, hd2⟩ := id hb
  simp only at hc hd hc2 hd2
  subst hc hd hc2 hd2
  have e : vs.toArray ++ ws.toArray = (vs ++ ws).toArray := by simp
  by_cases hw : ws = []
  · exact concat_meets ⟨_, ho, rfl⟩ ⟨_, ho2, rfl⟩ noFill_tuple_add seq_tuple_add PySem.F.slot_tuple_add PySem.F.entry_tuple_add (PySem.F.args_tuple_add_2 _ _)
      (tuple_addW1 t b vs.toArray ws.toArray n n2 dd dd2 sl sl2 (by simpa using hv) (by simp [hw])) ⟨ho, ho2, h1 hw⟩
  · refine concat_meets ⟨_, ho, rfl⟩ ⟨_, ho2, rfl⟩ noFill_tuple_add seq_tuple_add PySem.F.slot_tuple_add PySem.F.entry_tuple_add (PySem.F.args_tuple_add_2 _ _)
      (tuple_addW2 t b vs.toArray ws.toArray n n2 dd dd2 sl sl2 (by simpa using hv) (by simpa using hw) (by rw [List.size_toArray, List.size_toArray]; exact hsz)) ⟨ho, ho2, ?_⟩
    rw [e]
    exact h2 hw

/-! ### t[a:b], not the whole -/
/-- a slice's bound as a place among n (d where it is left out) -/
def sIx (n d : Nat) : Option Int → Nat
  | none => d
  | some v => if v < 0 then (v + (n : Int)).toNat else min v.toNat n
theorem sIx_none (n d : Nat) : sIx n d none = d := rfl
theorem sIx_nat (n d k : Nat) : sIx n d (some (k : Int)) = min k n := by
  show (if (k : Int) < 0 then ((k : Int) + (n : Int)).toNat else min (k : Int).toNat n) = min k n
  rw [if_neg (by omega), Int.toNat_natCast]
theorem sIx_le (n d : Nat) (hd : d ≤ n) (o : Option Int) : sIx n d o ≤ n := by
  cases o with
  | none => exact hd
  | some v =>
    show (if v < 0 then (v + (n : Int)).toNat else min v.toNat n) ≤ n
    by_cases hv : v < 0
    · rw [if_pos hv]; omega
    · rw [if_neg hv]; exact Nat.min_le_right _ _
theorem clip_eq (v : Int) (n d : Nat) : (if v < 0 then max (v + (n : Int)) 0 else min v (n : Int)) = ((sIx n d (some v) : Nat) : Int) := by
  show (if v < 0 then max (v + (n : Int)) 0 else min v (n : Int)) = (((if v < 0 then (v + (n : Int)).toNat else min v.toNat n) : Nat) : Int)
  by_cases hv : v < 0
  · simp only [if_pos hv]; omega
  · simp only [if_neg hv]; omega
theorem adjust_gen (lo hi : Option Int) (n : Nat) : Builtin.Slice.sliceAdjust lo hi 1 (n : Int) = (((sIx n 0 lo : Nat) : Int), ((sIx n n hi : Nat) : Int)) := by
  have h1 : ¬ ((1 : Int) < 0) := by omega
  unfold Builtin.Slice.sliceAdjust
  simp only [h1, if_false]
  refine Prod.ext ?_ ?_
  · cases lo with
    | none => rfl
    | some v => exact clip_eq v n 0
  · cases hi with
    | none => rfl
    | some v => exact clip_eq v n n
theorem places_gen (i j : Nat) : Builtin.Slice.slicePlaces (i : Int) (j : Int) 1 = j - i := by
  unfold Builtin.Slice.slicePlaces
  have h1 : (1 : Int) > 0 := by omega
  simp only [h1, if_true, Int.ediv_one]
  split <;> omega
theorem slicePart_ {v : Value} {o : Option Int} {Q : Option Int → Shared → Prop} (p : IsPart v o) (h : Q o s) : wpAny (model prog w) A (Builtin.Slice.slicePartIndex v) Q E s := by
  cases p with
  | none => exact slicePart_none h
  | int i t => exact slicePart_int h
theorem sliceApplied_gen {sl : Addr} {vl vu : Value} {lo hi : Option Int} {n : Nat} {Q : Int × Int × Nat → Shared → Prop} (hs : s.heap.IsSliceOf sl vl vu .none) (pl : IsPart vl lo) (pu : IsPart vu hi)
    (h : Q (((sIx n 0 lo : Nat) : Int), 1, sIx n n hi - sIx n 0 lo) s) : wpAny (model prog w) A (Builtin.Slice.sliceApplied (.ref sl) (pure (n : Int))) Q E s := by
  obtain ⟨os, hos, hcs, hds⟩ := id hs
  unfold Builtin.Slice.sliceApplied Builtin.Slice.sliceFields
  refine wpAny_bind (wpAny_bind (wpAny_field hos hds (x := vl) rfl (wpAny_bind (wpAny_field hos hds (x := vu) rfl (wpAny_bind (wpAny_field hos hds (x := .none) rfl (wpAny_pure ?_)))))))
  refine wpAny_bind (slicePart_none ?_)
  show wpAny _ _ (if ((1 : Int) == 0) = true then _ else _) _ _ s
  rw [if_neg (by decide)]
  refine wpAny_bind (slicePart_ pl (wpAny_bind (slicePart_ pu (wpAny_bind (wpAny_pure ?_)))))
  show wpAny _ _ (match Builtin.Slice.sliceAdjust lo hi 1 (n : Int) with | (lo, hi) => pure (lo, (1 : Int), Builtin.Slice.slicePlaces lo hi 1)) _ _ s
  rw [adjust_gen lo hi n]
  show wpAny _ _ (pure (((sIx n 0 lo : Nat) : Int), (1 : Int), Builtin.Slice.slicePlaces ((sIx n 0 lo : Nat) : Int) ((sIx n n hi : Nat) : Int) 1)) _ _ s
  rw [places_gen]
  exact wpAny_pure h
theorem pick_gen (xs : Array Value) (i k : Nat) : ((List.range k).filterMap fun (m : Nat) => xs[((i : Int) + (m : Int) * 1).toNat]?).toArray = ((xs.toList.drop i).take k).toArray := by
  have e : (fun (m : Nat) => xs[((i : Int) + (m : Int) * 1).toNat]?) = fun m => xs[i + m]? := by
    funext m
    have : ((i : Int) + (m : Int) * 1).toNat = i + m := by omega
    rw [this]
  rw [e]
  have := pick_run xs i k
  rw [List.filterMap_map] at this
  have e2 : ((fun x => xs[x]?) ∘ fun x => i + x) = fun m => xs[i + m]? := rfl
  rw [e2] at this
  rw [this]

theorem getItem_tuple_cut {t sl : Addr} {items : Array Value} {vl vu : Value} {lo hi : Option Int} {Q : Value → Shared → Prop} (ht : IsTup s.heap t items) (hs : s.heap.IsSliceOf sl vl vu .none) (pl : IsPart vl lo) (pu : IsPart vu hi)
    (hw : ¬ (sIx items.size 0 lo = 0 ∧ sIx items.size items.size hi = items.size))
    (h : Q (.ref s.heap.objs.size) { s with heap := s.heap.push { cls := .type "tuple", data := .seq ((items.toList.drop (sIx items.size 0 lo)).take (sIx items.size items.size hi - sIx items.size 0 lo)).toArray } })
    (hsz : items.size ≤ sizeLine) : wpAny (model prog w) A (getItem (.ref t) (.ref sl)) Q E s := by
  have htake : sizeOk (.seq ((items.toList.drop (sIx items.size 0 lo)).take (sIx items.size items.size hi - sIx items.size 0 lo)).toArray) := by
    show ((items.toList.drop (sIx items.size 0 lo)).take (sIx items.size items.size hi - sIx items.size 0 lo)).toArray.size ≤ sizeLine
    rw [List.size_toArray, List.length_take, List.length_drop, Array.length_toList]
    omega
  have hj : sIx items.size items.size hi ≤ items.size := sIx_le _ _ (Nat.le_refl _) hi
  obtain ⟨os, hos, hcs, hds⟩ := id hs
  have hTs : s.TypeIs (.ref sl) "slice" := ⟨os, hos, hcs⟩
  unfold getItem
  try with_reducible refine wpAny_holding ?_
  first | refine wpAny_bind (wpAny_pure ?_) | skip
  refine wpAny_bind (wpAny_sequenceKey ht.typeIs (by decide) ?_)
  refine wpAny_bind (wpAny_callSpecial?_slot (name := Str.ofString "__getitem__") ht.typeIs PyProof.Rows.slot_tuple_getitem
    (wpAny_call_entry PyProof.Rows.slot_tuple_getitem ht.typeIs entry_tuple_getitem ?_ (args_tuple_getitem _ _)))
  show wpAny _ _ (Builtin.Tuple.tupleItemsOf (.ref t) >>= _) _ _ s
  refine wpAny_bind (tupleItemsOf_ ht ?_)
  refine wpAny_bind (wpAny_typeOf hTs ?_)
  rw [if_pos (by decide)]
  refine wpAny_bind (sliceApplied_gen hs pl pu ?_)
  have hno : ¬ ((((sIx items.size 0 lo : Nat) : Int) == 0 && (1 : Int) == 1 && (sIx items.size items.size hi - sIx items.size 0 lo) == items.size) = true) := by
    intro q
    rw [Bool.and_eq_true, Bool.and_eq_true] at q
    have q1 : ((sIx items.size 0 lo : Nat) : Int) = 0 := eq_of_beq q.1.1
    have q2 : sIx items.size items.size hi - sIx items.size 0 lo = items.size := eq_of_beq q.2
    exact hw ⟨by omega, by omega⟩
  show wpAny _ _ (if (((sIx items.size 0 lo : Nat) : Int) == 0 && (1 : Int) == 1 && (sIx items.size items.size hi - sIx items.size 0 lo) == items.size) = true then _ else _) _ _ s
  rw [if_neg hno, pick_gen]
  first
    | exact wpAny_bind (m := Builtin.Tuple.tupleExact _) (wpAny_newObj_type (wpAny_pure ⟨_, rfl, wpAny_pure h⟩) htake)
    | exact wpAny_bind (m := Builtin.Tuple.tupleExact _) (wpAny_newObj_type (wpAny_bind (wpAny_pure (wpAny_pure ⟨_, rfl, wpAny_pure h⟩))) htake)
    | exact wpAny_bind (wpAny_bind (m := Builtin.Tuple.tupleExact _) (wpAny_newObj_type (wpAny_pure (wpAny_pure ⟨_, rfl, wpAny_pure h⟩)) htake))
    | exact wpAny_bind (wpAny_bind (m := Builtin.Tuple.tupleExact _) (wpAny_newObj_type (wpAny_pure ⟨_, rfl, wpAny_pure h⟩) htake))
end
end HT

namespace L2
open PySem PySem.Spec PyProof.Rows

/-! ### the parts of a slice -/
abbrev TO := St → Hp → (Option Int → Hp → Prop) → Prop
/-- a slice's part (left out, or an int) -/
def PO (X : Cx) (e : Option Expr) (t : TO) : Prop :=
  ∀ (pins : List (Addr × Obj)) (s : Shared) (σ : St) (H : Hp) (Q : Option Int → Hp → Prop), Inv X pins σ H s → t σ H Q →
    wpAny (model X.prog X.w) X.A (evalPart e X.env) (fun u s' => ∃ o H', Inv X pins σ H' s' ∧ IsPart u o ∧ Q o H') X.xe s
def tNoPart : TO := fun _ H Q => Q none H
def tPart (t : TE) : TO := fun σ H Q => t σ H fun x H1 => ∃ i, x = .int i ∧ Q (some i) H1

theorem intsAre_of {ns : List Int} : ∀ {us : List Value}, Vals (ns.map V.int) us → IntsAre us ns := by
  induction ns with
  | nil => intro us r; rw [List.map_nil] at r; cases r; exact .nil
  | cons n ns ih =>
    intro us r
    rw [List.map_cons] at r
    cases r with
    | cons r1 r2 =>
      obtain ⟨t, e⟩ := r1
      subst e
      exact .cons n t (ih r2)

section
variable {X : Cx} {e : Expr} {te : TE} {lo hi : Option Expr} {tl th : TO} {pos p2 : Pos}

theorem po_none : PO X none tNoPart := by
  intro pins s σ H Q I h
  rw [evalPart_none]
  exact wpAny_pure ⟨none, H, I, .none, h⟩
theorem po_some (h : PE X e te) : PO X (some e) (tPart te) := by
  intro pins s σ H Q I hw
  rw [evalPart_some]
  refine thn (h pins s σ H _ I hw) fun u s1 ⟨x, H1, I1, r1, q1⟩ => ?_
  obtain ⟨i, rfl, q⟩ := q1
  obtain ⟨t, rfl⟩ := r1
  exact ⟨some i, H1, I1, .int i t, q⟩

/-- what a slice of a value is, by values: the slice object stands at sl -/
def SlR (X : Cx) (r : V → Option Int → Option Int → Hp → VK → Prop) : Prop :=
  ∀ (pins : List (Addr × Obj)) (s : Shared) (σ : St) (H : Hp) (x : V) (v vl vu : Value) (lo hi : Option Int) (sl : Addr) (Q : VK), Inv X pins σ H s → RelV x v → s.heap.IsSliceOf sl vl vu .none → IsPart vl lo → IsPart vu hi → r x lo hi H Q →
    ∃ T id, typeLookup (.type T) "__getitem__" = pure (some (.builtin id)) ∧ s.TypeIs v T ∧ wpAny (model X.prog X.w) X.A (getItem v (.ref sl)) (EP X pins σ Q) X.xe s
theorem SlR.or {r r' : V → Option Int → Option Int → Hp → VK → Prop} (h : SlR X r) (h' : SlR X r') : SlR X (fun x lo hi H Q => r x lo hi H Q ∨ r' x lo hi H Q) := by
  intro pins s σ H x v vl vu lo hi sl Q I rx hs pl pu q
  rcases q with q | q
  · exact h pins s σ H x v vl vu lo hi sl Q I rx hs pl pu q
  · exact h' pins s σ H x v vl vu lo hi sl Q I rx hs pl pu q
def tSl (r : V → Option Int → Option Int → Hp → VK → Prop) (te : TE) (tl th : TO) : TE := fun σ H Q => te σ H fun x H1 => tl σ H1 fun l H2 => th σ H2 fun u H3 => r x l u H3 Q
/-- a[lo:hi], any a -/
theorem pe_slice {r : V → Option Int → Option Int → Hp → VK → Prop} (hr : SlR X r) (he : PE X e te) (hl : PO X lo tl) (hu : PO X hi th) : PE X (.Subscript e (.Slice lo hi none p2) pos) (tSl r te tl th) := by
  intro pins s σ H Q I h
  refine Subscript_ (thn (he pins s σ H _ I h) fun v s1 ⟨x, H1, I1, r1, q1⟩ => ?_)
  refine wpAny_Slice (thn (hl pins s1 σ H1 _ I1 q1) fun vl s2 ⟨l, H2, I2, pl, q2⟩ => thn (hu pins s2 σ H2 _ I2 q2) fun vu s3 ⟨u, H3, I3, pu, q3⟩ => ?_)
  rw [evalPart_none]
  refine wpAny_pure ?_
  have I4 : Inv X pins σ H3 { s3 with heap := s3.heap.push { cls := .type "slice", data := .fields #[vl, vu, .none] } } := I3.kept (t' := s3.toks) fun b ob q => Heap.get?_push_of_some _ q
  obtain ⟨T, id, hT, ht, hg⟩ := hr pins { s3 with heap := s3.heap.push { cls := .type "slice", data := .fields #[vl, vu, .none] } } σ H3 x v vl vu l u s3.heap.objs.size Q I4 r1 (Heap.IsSliceOf.new ..) pl pu q3
  show wpAny (model X.prog X.w) X.A (subscriptTail e (.Slice lo hi none p2) v (.ref s3.heap.objs.size)) (EP X pins σ Q) X.xe { s3 with heap := s3.heap.push { cls := .type "slice", data := .fields #[vl, vu, .none] } }
  exact tail_any (ops := [.ref s3.heap.objs.size, v]) ht hT hg (by with_unfolding_all rfl)

/-- the items of xs[lo:hi] -/
def cutV (xs : List V) (lo hi : Option Int) : List V := (xs.drop (HT.sIx xs.length 0 lo)).take (HT.sIx xs.length xs.length hi - HT.sIx xs.length 0 lo)
theorem cutV_length (xs : List V) (lo hi : Option Int) : (cutV xs lo hi).length ≤ xs.length := by
  unfold cutV
  rw [List.length_take, List.length_drop]
  omega
/-- t[lo:hi], not the whole of it (the whole would be t itself) -/
def rSlT (K : PySem.W.Frag) : V → Option Int → Option Int → Hp → VK → Prop := fun x lo hi H Q => ∃ a xs, x = .ref a ∧ SqT K H a xs ∧
  ¬ (HT.sIx xs.length 0 lo = 0 ∧ HT.sIx xs.length xs.length hi = xs.length) ∧ ∀ p, H p = none → Q (.ref p) (upd H p (.tup (cutV xs lo hi)))
theorem sl_tup : SlR X (rSlT X.K) := by
  intro pins s σ H x v vl vu lo hi sl Q I rx hs pl pu h
  obtain ⟨a, xs, rfl, hx, hw, q⟩ := h
  cases rx
  obtain ⟨its, r, ht, hz⟩ := I.tuple hx
  have hlen : its.toArray.size = xs.length := by rw [List.size_toArray]; exact r.length.symm
  refine ⟨"tuple", _, PyProof.Rows.slot_tuple_getitem.lookup, ht.typeIs, ?_⟩
  refine HT.getItem_tuple_cut ht hs pl pu (by rw [hlen]; exact hw) ?_ (by rw [hlen]; exact hz)
  rw [hlen]
  refine ⟨.ref s.heap.objs.size, _, I.laid (t' := s.toks) (o := .tup (cutV xs lo hi)) (fun b ob q => Heap.get?_push_of_some _ q) (Nat.le_refl _) ?_, rfl, q _ (I.hok.fresh (Nat.le_refl _))⟩
  exact ⟨Nat.le_trans (cutV_length xs lo hi) hz, _, (r.drop (HT.sIx xs.length 0 lo)).take (HT.sIx xs.length xs.length hi - HT.sIx xs.length 0 lo), IsTup.new _ _⟩

/-! ### t < u, t + u -/
def rLtT (K : PySem.W.Frag) : R2 := fun x y H Q => ∃ a b ns ms, x = .ref a ∧ y = .ref b ∧ SqT K H a (ns.map V.int) ∧ SqT K H b (ms.map V.int) ∧ Q (.bl (HT.lexLt ns ms)) H
theorem op_ltT (hu : X.A.units < cLine) : OpR X (compareOp .Lt) (rLtT X.K) := by
  intro pins s σ H x y v u Q I rx ry h
  obtain ⟨a, b, ns, ms, rfl, rfl, ha, hb, q⟩ := h
  cases rx
  cases ry
  obtain ⟨its, r1, p1, _⟩ := I.tuple ha
  obtain ⟨its2, r2, p2, _⟩ := I.tuple hb
  have i1 : IntsAre its.toArray.toList ns := intsAre_of r1
  have i2 : IntsAre its2.toArray.toList ms := intsAre_of r2
  exact HT.lt_tupInts p1 p2 i1 i2 hu ⟨.bl (HT.lexLt ns ms), H, I, rfl, q⟩
/-- t + u, t not empty: u empty gives t itself -/
def rCatT (K : PySem.W.Frag) : R2 := fun x y H Q => ∃ a b xs ys, x = .ref a ∧ y = .ref b ∧ SqT K H a xs ∧ SqT K H b ys ∧ xs ≠ [] ∧ xs.length + ys.length ≤ sizeLine ∧
  (ys = [] → Q (.ref a) H) ∧ (ys ≠ [] → ∀ p, H p = none → Q (.ref p) (upd H p (.tup (xs ++ ys))))
theorem Vals.nil_iff {xs : List V} {us : List Value} (r : Vals xs us) : us = [] ↔ xs = [] := by
  cases r with
  | nil => simp
  | cons _ _ => simp
theorem op_catT : OpR X (binaryOp .Add) (rCatT X.K) := by
  intro pins s σ H x y v u Q I rx ry h
  obtain ⟨a, b, xs, ys, rfl, rfl, ha, hb, hx, hz, q1, q2⟩ := h
  cases rx
  cases ry
  obtain ⟨its, r1, p1, _⟩ := I.tuple ha
  obtain ⟨its2, r2, p2, _⟩ := I.tuple hb
  refine HT.cat_tup p1 p2 (fun z => hx (r1.nil_iff.mp z)) (fun z => ⟨.ref a, H, I, rfl, q1 (r2.nil_iff.mp z)⟩) (fun z => ?_) (by rw [← r1.length, ← r2.length]; exact hz)
  refine ⟨.ref s.heap.objs.size, _, I.laid (t' := s.toks) (o := .tup (xs ++ ys)) (fun b ob q => Heap.get?_push_of_some _ q) (Nat.le_refl _) ?_, rfl, q2 (fun w => z (r2.nil_iff.mpr w)) _ (I.hok.fresh (Nat.le_refl _))⟩
  exact ⟨by rw [List.length_append]; exact hz, _, r1.append r2, IsTup.new _ _⟩
/-- tuple(t) -/
theorem call_tupleT : CallR X (.type "tuple") (fun xs H Q => ∃ a ys, xs = [.ref a] ∧ SqT X.K H a ys ∧ Q (.ref a) H) := by
  intro pins s σ H xs us Q I r h
  obtain ⟨a, ys, rfl, ha, q⟩ := h
  obtain ⟨u, rfl, ru⟩ := vals1 r
  cases ru
  obtain ⟨its, _, p1, _⟩ := I.tuple ha
  exact call_tuple_same (items := its.toArray) p1 ⟨.ref a, H, I, rfl, q⟩
end
end L2

namespace L2
open PySem PySem.Spec PyProof.Rows

/-! ### places -/
/-- the place that an index of any sign means -/
def ixN (n : Nat) (i : Int) : Option Nat := if 0 ≤ i then (if i < n then some i.toNat else none) else if -(n : Int) ≤ i then some (i + n).toNat else none
def atI {α : Type} (xs : List α) (i : Int) : Option α := (ixN xs.length i).bind fun j => xs[j]?
theorem ixN_seq {n : Nat} {i : Int} {j : Nat} (h : ixN n i = some j) : seqIndex? i n = some j ∧ j < n ∧ -(n : Int) ≤ i ∧ i < n := by
  unfold ixN at h
  by_cases h0 : 0 ≤ i
  · rw [if_pos h0] at h
    by_cases h1 : i < n
    · rw [if_pos h1] at h
      have e : i.toNat = j := Option.some.inj h
      exact ⟨by rw [seqIndex_of h0 h1, e], by omega, by omega, h1⟩
    · rw [if_neg h1] at h; cases h
  · rw [if_neg h0] at h
    by_cases h1 : -(n : Int) ≤ i
    · rw [if_pos h1] at h
      have e : (i + n).toNat = j := Option.some.inj h
      exact ⟨by rw [seqIndex_neg (by omega) h1, e], by omega, h1, by omega⟩
    · rw [if_neg h1] at h; cases h
theorem atI_get {α : Type} {xs : List α} {i : Int} {v : α} (h : atI xs i = some v) : ∃ j, seqIndex? i xs.length = some j ∧ xs[j]? = some v ∧ j < xs.length ∧ -(xs.length : Int) ≤ i ∧ i < xs.length := by
  unfold atI at h
  cases e : ixN xs.length i with
  | none => rw [e] at h; cases h
  | some j =>
    rw [e] at h
    obtain ⟨h1, h2, h3, h4⟩ := ixN_seq e
    exact ⟨j, h1, h, h2, h3, h4⟩
theorem atI_nat {α : Type} {xs : List α} {j : Nat} {v : α} (h : xs[j]? = some v) : atI xs (j : Int) = some v := by
  have hj : j < xs.length := (List.getElem?_eq_some_iff.mp h).1
  have e : ixN xs.length (j : Int) = some j := by
    unfold ixN
    rw [if_pos (by omega), if_pos (by omega)]; simp
  unfold atI; rw [e]; exact h
theorem atI_last {α : Type} (xs : List α) (v : α) : atI (xs ++ [v]) (-1) = some v := by
  have hl : (xs ++ [v]).length = xs.length + 1 := by simp
  have e : ixN (xs ++ [v]).length (-1) = some xs.length := by
    unfold ixN
    rw [hl, if_neg (by decide), if_pos (by omega)]
    congr 1
    omega
  unfold atI
  rw [e]
  show (xs ++ [v])[xs.length]? = some v
  simp

/-! ### what may be subscripted -/
/-- what stands as an index of a plain subscript -/
def PlainIx (b : Expr) : Prop := ∀ o i, subscripted b false o i = operate [o, i] (getItem o i)
/-- a subscript by values -/
def IxR (X : Cx) (r : R2) : Prop :=
  ∀ (value slice : Expr) (pins : List (Addr × Obj)) (s : Shared) (σ : St) (H : Hp) (x y : V) (v u : Value) (Q : VK), Inv X pins σ H s → RelV x v → RelV y u → r x y H Q →
    subscripted slice false v u = operate [v, u] (getItem v u) → wpAny (model X.prog X.w) X.A (subscriptTail value slice v u) (EP X pins σ Q) X.xe s
/-- a call of a builtin's method by values: the receiver, the arguments -/
def MtR (X : Cx) (id : String) (r : V → List V → Hp → VK → Prop) : Prop :=
  ∀ (pins : List (Addr × Obj)) (s : Shared) (σ : St) (H : Hp) (x : V) (xs : List V) (v : Value) (us : List Value) (Q : VK), Inv X pins σ H s → RelV x v → Vals xs us → r x xs H Q →
    wpAny (model X.prog X.w) X.A (call (.builtin id) (v :: us)) (EP X pins σ Q) X.xe s
section
variable {X : Cx} {a b : Expr} {ta tb : TE} {pos : Pos}
theorem IxR.or {r r' : R2} (h : IxR X r) (h' : IxR X r') : IxR X (fun x y H Q => r x y H Q ∨ r' x y H Q) := by
  intro value slice pins s σ H x y v u Q I rx ry q hs
  rcases q with q | q
  · exact h value slice pins s σ H x y v u Q I rx ry q hs
  · exact h' value slice pins s σ H x y v u Q I rx ry q hs
theorem MtR.or {id : String} {r r' : V → List V → Hp → VK → Prop} (h : MtR X id r) (h' : MtR X id r') : MtR X id (fun x xs H Q => r x xs H Q ∨ r' x xs H Q) := by
  intro pins s σ H x xs v us Q I rx rs q
  rcases q with q | q
  · exact h pins s σ H x xs v us Q I rx rs q
  · exact h' pins s σ H x xs v us Q I rx rs q
/-- a[b] -/
theorem pe_ix {r : R2} (hr : IxR X r) (ha : PE X a ta) (hb : PE X b tb) (hs : PlainIx b) : PE X (.Subscript a b pos) (tOp r ta tb) := by
  intro pins s σ H Q I h
  exact Subscript_ (binT ha hb I h fun v u s2 x y H2 I2 rx ry q => hr a b pins s2 σ H2 x y v u Q I2 rx ry q (hs _ _))

def rIxL (K : PySem.W.Frag) : R2 := fun x y H Q => ∃ p xs i v, x = .ref p ∧ y = .int i ∧ SqL K H p xs ∧ atI xs i = some v ∧ Q v H
def rIxT (K : PySem.W.Frag) : R2 := fun x y H Q => ∃ p xs i v, x = .ref p ∧ y = .int i ∧ SqT K H p xs ∧ atI xs i = some v ∧ Q v H
def rIxS : R2 := fun x y H Q => ∃ z i c, x = .str z ∧ y = .int i ∧ z.length ≤ sizeLine ∧ atI z.cps.toList i = some c ∧ Q (.str ⟨#[c]⟩) H
theorem ix_list : IxR X (rIxL X.K) := by
  intro value slice pins s σ H x y v u Q I rx ry h hs
  obtain ⟨p, xs, i, z, rfl, rfl, hq, he, q⟩ := h
  cases rx
  obtain ⟨t, rfl⟩ := ry
  obtain ⟨its, r, pl, hz⟩ := I.list hq
  obtain ⟨j, h1, h2, h3, h4, h5⟩ := atI_get he
  obtain ⟨w, ew, rw'⟩ := r.get h2
  have hl := r.length
  have hn := line63
  have fin : EP X pins σ Q w s := ⟨z, H, I, rw', q⟩
  by_cases h0 : 0 ≤ i
  · have hj : i.toNat = j := by
      rw [seqIndex_of h0 h5] at h1
      exact Option.some.inj h1
    exact item_listR pl.isList h0 (by omega) (by rw [hj]; simpa using ew) fin hs
  · have hj : (i + (its.toArray.size : Int)).toNat = j := by
      rw [seqIndex_neg (by omega) h4] at h1
      rw [List.size_toArray, ← hl]
      exact Option.some.inj h1
    exact subscriptTail_builtinR (x := w) pl.isList.typeIs slot_list_getitem.lookup
      (wpAny_getItem_list_neg (Q := fun r s' => r = w ∧ EP X pins σ Q r s') pl.isList (by omega) (by rw [List.size_toArray] <;> omega) (by omega) (by rw [hj]; simpa using ew) ⟨rfl, fin⟩) hs
theorem ix_tup : IxR X (rIxT X.K) := by
  intro value slice pins s σ H x y v u Q I rx ry h hs
  obtain ⟨p, xs, i, z, rfl, rfl, hq, he, q⟩ := h
  cases rx
  obtain ⟨t, rfl⟩ := ry
  obtain ⟨its, r, pl, hz⟩ := I.tuple hq
  obtain ⟨j, h1, h2, h3, h4, h5⟩ := atI_get he
  obtain ⟨w, ew, rw'⟩ := r.get h2
  have hl := r.length
  have hn := line63
  have fin : EP X pins σ Q w s := ⟨z, H, I, rw', q⟩
  exact subscriptTail_builtinR (x := w) pl.typeIs slot_tuple_getitem.lookup
    (getItem_tuple (j := j) (Q := fun r s' => r = w ∧ EP X pins σ Q r s') pl (by omega) (by omega) (by rw [List.size_toArray, ← hl]; exact h1) (by simpa using ew) ⟨rfl, fin⟩) hs
theorem ix_str : IxR X rIxS := by
  intro value slice pins s σ H x y v u Q I rx ry h hs
  obtain ⟨z, i, c, rfl, rfl, hz, he, q⟩ := h
  obtain ⟨t, rfl⟩ := rx
  obtain ⟨t', rfl⟩ := ry
  obtain ⟨j, h1, h2, h3, h4, h5⟩ := atI_get he
  have hl : z.cps.toList.length = z.length := by simp [Str.length]
  rw [hl] at h1 h4 h5
  have hn := line63
  exact tail_any (typeIs_str s z t) slot_str_getitem.lookup (getItem_str (c := c) (by
    have e1 : decide (i < -(2 ^ 63 : Int)) = false := decide_eq_false (by omega)
    have e2 : decide (i ≥ 2 ^ 63) = false := decide_eq_false (by omega)
    rw [e1, e2, Bool.or_false]) (by rw [h1]; simpa using h2) ⟨.str ⟨#[c]⟩, H, I.tok _, ⟨_, rfl⟩, q⟩) hs
/-- list, tuple or str -/
def rIx (K : PySem.W.Frag) : R2 := fun x y H Q => rIxL K x y H Q ∨ rIxT K x y H Q ∨ rIxS x y H Q
theorem ix_seq : IxR X (rIx X.K) := ix_list.or (ix_tup.or ix_str)

/-! ### xs[i] = v, any sign -/
/-- the list's object behind a store -/
theorem mapSeq_set (its : List Value) (n j : Nat) (u : Value) : Obj.mapSeq (·.setIfInBounds j u) { cls := .type "list", data := .seq its.toArray n } = { cls := .type "list", data := .seq (its.set j u).toArray n } := by
  simp [Obj.mapSeq]
theorem Inv.lst {pins : List (Addr × Obj)} {σ : St} {H : Hp} {s : Shared} {p : Addr} {xs : List V} (I : Inv X pins σ H s) (h : H p = some (.lst xs)) :
    ∃ (its : List Value) (n : Nat), Vals xs its ∧ s.heap.get? p = some { cls := .type "list", data := .seq its.toArray n } ∧ xs.length ≤ sizeLine := by
  obtain ⟨z, its, n, r, e⟩ := I.hok p _ h
  exact ⟨its, n, r, e, z⟩
/-- the list at p is written by an update of its object -/
theorem Inv.lstUpd {pins : List (Addr × Obj)} {σ : St} {H : Hp} {s : Shared} {p : Addr} {xs ys : List V} {its its' : List Value} {n n' : Nat} {f : Obj → Obj} (I : Inv X pins σ H s) (h : H p = some (.lst xs))
    (ho : s.heap.get? p = some { cls := .type "list", data := .seq its.toArray n }) (hf : f { cls := .type "list", data := .seq its.toArray n } = { cls := .type "list", data := .seq its'.toArray n' }) (r : Vals ys its') (hz : ys.length ≤ sizeLine) (t : Nat) :
    Inv X pins σ (upd H p (.lst ys)) { s with heap := s.heap.update p f, toks := t } := by
  have e : (s.heap.update p f).get? p = some { cls := .type "list", data := .seq its'.toArray n' } := by
    rw [Heap.get?_update_self f ho (by rw [hf] <;> rfl), hf]
  refine I.write (x := p) (e := p) (by rw [h]; trivial) (.inl rfl) (fun b u hb q => (Heap.get?_update_other _ _ (Ne.symm hb)).trans q) ⟨_, e⟩ ?_
  exact ⟨hz, its', n', r, e⟩
def rSetL : V → V → V → Hp → (Hp → Prop) → Prop := fun o i v H Q => ∃ p xs k j, o = .ref p ∧ i = .int k ∧ H p = some (.lst xs) ∧ ixN xs.length k = some j ∧ Q (upd H p (.lst (xs.set j v)))
theorem set_list : PSet X rSetL := by
  intro pins s σ H o i v ov iv u Q I ro ri rv h
  obtain ⟨p, xs, k, j, rfl, rfl, hp, hj, q⟩ := h
  cases ro
  obtain ⟨t, rfl⟩ := ri
  obtain ⟨its, n, r, ho, hz⟩ := I.lst hp
  obtain ⟨h1, h2, h3, h4⟩ := ixN_seq hj
  have hl := r.length
  have hn := line63
  have I' : Inv X pins σ (upd H p (.lst (xs.set j v))) { s with heap := s.heap.update p (Obj.mapSeq (·.setIfInBounds j u)) } :=
    I.lstUpd hp ho (mapSeq_set its n j u) (r.set rv j) (by rw [List.length_set]; exact hz) s.toks
  by_cases h0 : 0 ≤ k
  · have hk : k.toNat = j := by
      rw [seqIndex_of h0 h4] at h1
      exact Option.some.inj h1
    exact PySem.W.ki_setAt ho h0 (by omega) (by rw [List.size_toArray, ← hl]; exact h4) (by rw [hk]; exact ⟨_, I', q⟩)
  · have hk : (k + (its.toArray.size : Int)).toNat = j := by
      rw [seqIndex_neg (by omega) h3] at h1
      rw [List.size_toArray, ← hl]
      exact Option.some.inj h1
    exact PySem.W.ki_setBack ho (by omega) (by rw [List.size_toArray, ← hl]; exact h3) (by omega) (by rw [hk]; exact ⟨_, I', q⟩)

/-! ### slices -/
theorem slice_bounds (lo hi : Option Int) (n : Nat) : (sliceBounds lo hi none n).1 = ((HT.sIx n 0 lo : Nat) : Int) ∧ (sliceBounds lo hi none n).2.1 = ((HT.sIx n n hi : Nat) : Int) ∧ (sliceBounds lo hi none n).2.2 = 1 := by
  refine ⟨?_, ?_, rfl⟩
  · cases lo with
    | none => simp [sliceBounds, HT.sIx]
    | some i =>
      simp only [sliceBounds, HT.sIx, Option.getD_none, show (1 : Int) > 0 by decide, if_true]
      by_cases h : i < 0
      · simp only [h, if_true] <;> omega
      · simp only [h, if_false] <;> omega
  · cases hi with
    | none => simp [sliceBounds, HT.sIx]
    | some i =>
      simp only [sliceBounds, HT.sIx, Option.getD_none, show (1 : Int) > 0 by decide, if_true]
      by_cases h : i < 0
      · simp only [h, if_true] <;> omega
      · simp only [h, if_false] <;> omega
theorem slicePick_cut (its : List Value) (lo hi : Option Int) : slicePick its.toArray lo hi none = ((its.drop (HT.sIx its.length 0 lo)).take (HT.sIx its.length its.length hi - HT.sIx its.length 0 lo)).toArray := by
  obtain ⟨h1, h2, h3⟩ := slice_bounds lo hi its.toArray.size
  unfold slicePick
  rw [h1, h2, h3]
  simp only [sliceRange_one, pick_run, List.size_toArray] <;> rfl
/-- xs[lo:hi] of a list: a new list -/
def rSlL (K : PySem.W.Frag) : V → Option Int → Option Int → Hp → VK → Prop := fun x lo hi H Q => ∃ a xs, x = .ref a ∧ SqL K H a xs ∧ ∀ p, H p = none → Q (.ref p) (upd H p (.lst (cutV xs lo hi)))
theorem sl_list : SlR X (rSlL X.K) := by
  intro pins s σ H x v vl vu lo hi sl Q I rx hs pl pu h
  obtain ⟨a, xs, rfl, hx, q⟩ := h
  cases rx
  obtain ⟨its, r, ht, hz⟩ := I.list hx
  have hlen := r.length
  refine ⟨"list", _, slot_list_getitem.lookup, ht.isList.typeIs, ?_⟩
  refine wpAny_getItem_list_slice ht.isList hs pl pu .none (by simp) ?_ (by rw [List.size_toArray] <;> omega)
  rw [slicePick_cut, ← hlen]
  refine ⟨.ref s.heap.objs.size, _, I.laid (t' := s.toks) (o := .lst (cutV xs lo hi)) (fun b ob q => Heap.get?_push_of_some _ q) (Nat.le_refl _) ?_, rfl, q _ (I.hok.fresh (Nat.le_refl _))⟩
  exact ⟨Nat.le_trans (cutV_length xs lo hi) hz, _, 0, (r.drop (HT.sIx xs.length 0 lo)).take (HT.sIx xs.length xs.length hi - HT.sIx xs.length 0 lo), Heap.get?_push_size _ rfl⟩

/-! ### in, not in: flat items -/
def flatV : V → Bool
  | .non => true
  | .bl _ => true
  | .int _ => true
  | .str _ => true
  | _ => false
/-- == of flat values -/
def eqV : V → V → Bool
  | .non, .non => true
  | .bl a, .bl b => a == b
  | .bl a, .int b => (if a then 1 else 0) == b
  | .int a, .bl b => a == (if b then 1 else 0)
  | .int a, .int b => a == b
  | .str a, .str b => a == b
  | _, _ => false
theorem eqAt_V {A : Around} {s : Shared} {y x : V} {u v : Value} (ry : RelV y u) (rx : RelV x v) (fy : flatV y = true) (fx : flatV x = true) : SeqAt.EqAt A s u v (eqV y x) := by
  cases y with
  | non =>
    cases ry
    cases x with
    | non => cases rx; exact SeqAt.EqAt.same _
    | bl b => cases rx; exact SeqAt.EqAt.none_bool b
    | int b => obtain ⟨t, rfl⟩ := rx; exact SeqAt.EqAt.none_int b t
    | str b => obtain ⟨t, rfl⟩ := rx; exact SeqAt.EqAt.none_str b t
    | _ => exact absurd (show false = true from fx) Bool.false_ne_true
  | bl a =>
    cases ry
    cases x with
    | non => cases rx; exact SeqAt.EqAt.bool_none a
    | bl b => cases rx; exact SeqAt.EqAt.bool_bool a b
    | int b => obtain ⟨t, rfl⟩ := rx; exact SeqAt.EqAt.bool_int a b t
    | str b => obtain ⟨t, rfl⟩ := rx; exact SeqAt.EqAt.bool_str a b t
    | _ => exact absurd (show false = true from fx) Bool.false_ne_true
  | int a =>
    obtain ⟨t', rfl⟩ := ry
    cases x with
    | non => cases rx; exact SeqAt.EqAt.int_none a t'
    | bl b => cases rx; exact SeqAt.EqAt.int_bool a t' b
    | int b => obtain ⟨t, rfl⟩ := rx; exact SeqAt.EqAt.int_int a t' b t
    | str b => obtain ⟨t, rfl⟩ := rx; exact SeqAt.EqAt.int_str a t' b t
    | _ => exact absurd (show false = true from fx) Bool.false_ne_true
  | str a =>
    obtain ⟨t', rfl⟩ := ry
    cases x with
    | non => cases rx; exact SeqAt.EqAt.str_none a t'
    | bl b => cases rx; exact SeqAt.EqAt.str_bool a t' b
    | int b => obtain ⟨t, rfl⟩ := rx; exact SeqAt.EqAt.str_int a t' b t
    | str b => obtain ⟨t, rfl⟩ := rx; exact SeqAt.EqAt.str_str a t' b t
    | _ => exact absurd (show false = true from fx) Bool.false_ne_true
  | _ => exact absurd (show false = true from fy) Bool.false_ne_true
/-- the items' answers, read off the values (a value's own answer does not lean on its token) -/
def eqU (x : V) (u : Value) : Bool := match u with
  | .none => eqV .non x
  | .bool b => eqV (.bl b) x
  | .int i _ => eqV (.int i) x
  | .str z _ => eqV (.str z) x
  | _ => false
theorem eqU_of {x y : V} {u : Value} (r : RelV y u) (f : flatV y = true) : eqU x u = eqV y x := by
  cases y with
  | non => cases r; rfl
  | bl b => cases r; rfl
  | int i => obtain ⟨t, rfl⟩ := r; rfl
  | str z => obtain ⟨t, rfl⟩ := r; rfl
  | _ => exact absurd (show false = true from f) Bool.false_ne_true
theorem any_eqU {x : V} : ∀ {xs : List V} {us : List Value}, Vals xs us → xs.all flatV = true → us.any (eqU x) = xs.any fun y => eqV y x
  | _, _, .nil, _ => rfl
  | y :: xs, u :: us, .cons r t, f => by
    rw [List.all_cons, Bool.and_eq_true] at f
    rw [List.any_cons, List.any_cons, eqU_of r f.1, any_eqU t f.2]
theorem mem_eqAt {A : Around} {s : Shared} {x : V} {v : Value} (rx : RelV x v) (fx : flatV x = true) : ∀ {xs : List V} {us : List Value}, Vals xs us → xs.all flatV = true → ∀ u ∈ us, SeqAt.EqAt A s u v (eqU x u)
  | _, _, .nil, _ => fun u hu => by cases hu
  | y :: xs, u :: us, .cons r t, f => fun u' hu => by
    rw [List.all_cons, Bool.and_eq_true] at f
    rcases List.mem_cons.mp hu with rfl | hu
    · rw [eqU_of r f.1]; exact eqAt_V r rx f.1 fx
    · exact mem_eqAt rx fx t f.2 u' hu
def inV (x : V) (xs : List V) : Bool := xs.any fun y => eqV y x
/-- x in a list or tuple of flat items -/
def rIn (K : PySem.W.Frag) (neg : Bool) : R2 := fun x y H Q => ∃ p xs, y = .ref p ∧ (SqL K H p xs ∨ SqT K H p xs) ∧ flatV x = true ∧ xs.all flatV = true ∧ Q (.bl (if neg then !inV x xs else inV x xs)) H
theorem op_in_seq : OpR X (compareOp .In) (rIn X.K false) := by
  intro pins s σ H x y v u Q I rx ry h
  obtain ⟨p, xs, rfl, hq, fx, fs, q⟩ := h
  cases ry
  rcases hq with hq | hq
  · obtain ⟨its, r, pl, hz⟩ := I.list hq
    refine SeqAt.in_listAt (eqU x) pl.isList (fun w hw => mem_eqAt rx fx r fs w (by simpa using hw)) ⟨.bl _, H, I, rfl, ?_⟩
    rw [show its.toArray.any (eqU x) = its.any (eqU x) by simp, any_eqU r fs]
    exact q
  · obtain ⟨its, r, pl, hz⟩ := I.tuple hq
    refine SeqAt.in_tupleAt (eqU x) pl (fun w hw => mem_eqAt rx fx r fs w (by simpa using hw)) ⟨.bl _, H, I, rfl, ?_⟩
    rw [show its.toArray.any (eqU x) = its.any (eqU x) by simp, any_eqU r fs]
    exact q
theorem op_notIn_seq : OpR X (compareOp .NotIn) (rIn X.K true) := by
  intro pins s σ H x y v u Q I rx ry h
  obtain ⟨p, xs, rfl, hq, fx, fs, q⟩ := h
  cases ry
  rcases hq with hq | hq
  · obtain ⟨its, r, pl, hz⟩ := I.list hq
    refine SeqAt.notIn_listAt (eqU x) pl.isList (fun w hw => mem_eqAt rx fx r fs w (by simpa using hw)) ⟨.bl _, H, I, rfl, ?_⟩
    rw [show its.toArray.any (eqU x) = its.any (eqU x) by simp, any_eqU r fs]
    exact q
  · obtain ⟨its, r, pl, hz⟩ := I.tuple hq
    refine SeqAt.notIn_tupleAt (eqU x) pl (fun w hw => mem_eqAt rx fx r fs w (by simpa using hw)) ⟨.bl _, H, I, rfl, ?_⟩
    rw [show its.toArray.any (eqU x) = its.any (eqU x) by simp, any_eqU r fs]
    exact q
theorem op_notIn_str : OpR X (compareOp .NotIn) (fun x y H Q => ∃ i j, x = .str i ∧ y = .str j ∧ Q (.bl (!(!(Builtin.Str.occurrences j i 0 j.length 1).isEmpty))) H) := by
  intro pins s σ H x y v u Q I rx ry h
  obtain ⟨i, j, rfl, rfl, q⟩ := h
  obtain ⟨t, rfl⟩ := rx
  obtain ⟨t', rfl⟩ := ry
  exact notIn_str ⟨.bl _, H, I, rfl, q⟩

/-! ### len, list(x), tuple(x) of any list or tuple that is read -/
theorem call_len_seq : CallR X (.builtin "len") (fun xs H Q => ∃ p ys, xs = [.ref p] ∧ (SqL X.K H p ys ∨ SqT X.K H p ys) ∧ Q (.int ys.length) H) := by
  intro pins s σ H xs us Q I r h
  obtain ⟨p, ys, rfl, hq, q⟩ := h
  obtain ⟨u, rfl, rx⟩ := vals1 r
  cases rx
  have hn := line63
  rcases hq with hq | hq
  · obtain ⟨its, r', pl, hz⟩ := I.list hq
    have hlen := r'.length
    exact Calls.call_len_list pl.isList (by simp only [List.size_toArray] <;> omega) ⟨.int ys.length, H, I.tok _, ⟨s.toks + 1, by rw [List.size_toArray, hlen]⟩, q⟩
  · obtain ⟨its, r', pl, hz⟩ := I.tuple hq
    have hlen := r'.length
    exact len_tuple pl (by simp only [List.size_toArray] <;> omega) ⟨.int ys.length, H, I.tok _, ⟨s.toks + 1, by rw [List.size_toArray, hlen]⟩, q⟩
theorem call_len_str : CallR X (.builtin "len") (fun xs H Q => ∃ z, xs = [.str z] ∧ z.length ≤ sizeLine ∧ Q (.int z.length) H) := by
  intro pins s σ H xs us Q I r h
  obtain ⟨z, rfl, hz, q⟩ := h
  obtain ⟨u, rfl, t, rfl⟩ := vals1 r
  have hn := line63
  exact len_str (by omega) ⟨.int z.length, H, I.tok _, ⟨_, rfl⟩, q⟩
theorem CallR.or {f : Value} {r r' : List V → Hp → VK → Prop} (h : CallR X f r) (h' : CallR X f r') : CallR X f (fun xs H Q => r xs H Q ∨ r' xs H Q) := by
  intro pins s σ H xs us Q I rs q
  rcases q with q | q
  · exact h pins s σ H xs us Q I rs q
  · exact h' pins s σ H xs us Q I rs q
theorem call_list_of : CallR X (.type "list") (fun xs H Q => ∃ p ys, xs = [.ref p] ∧ (SqL X.K H p ys ∨ SqT X.K H p ys) ∧ ∀ l, H l = none → Q (.ref l) (upd H l (.lst ys))) := by
  intro pins s σ H xs us Q I r h
  obtain ⟨p, ys, rfl, hq, q⟩ := h
  obtain ⟨u, rfl, rx⟩ := vals1 r
  cases rx
  have fin : ∀ (its : List Value), Vals ys its → ys.length ≤ sizeLine → ∀ (h' : Heap) (c' : Nat), (∀ b o', s.heap.get? b = some o' → h'.get? b = some o') →
      h'.get? s.heap.objs.size = some { cls := .type "list", dict := none, data := .seq its.toArray c', slots := #[] } → EP X pins σ Q (.ref s.heap.objs.size) { s with heap := h' } := fun its r' hz h' c' kp e =>
    ⟨.ref s.heap.objs.size, _, I.laid (t' := s.toks) kp (Nat.le_refl _) (show ObjOk X.prog X.w _ h' _ (.lst ys) from ⟨hz, its, c', r', e⟩), rfl, q _ (I.hok.fresh (Nat.le_refl _))⟩
  rcases hq with hq | hq
  · obtain ⟨its, r', pl, hz⟩ := I.list hq
    have hlen := r'.length
    obtain ⟨o, ho, hc, n, hd⟩ := pl.isList
    exact call_list_seq p (.inl rfl) ho hc hd (fun h' c' kp e => fin its r' hz h' c' kp e) (by simp only [List.size_toArray] <;> omega)
  · obtain ⟨its, r', pl, hz⟩ := I.tuple hq
    have hlen := r'.length
    obtain ⟨o, ho, hc, n, hd⟩ := pl
    exact call_list_seq p (.inr rfl) ho hc hd (fun h' c' kp e => fin its r' hz h' c' kp e) (by simp only [List.size_toArray] <;> omega)
theorem call_tuple_of : CallR X (.type "tuple") (fun xs H Q => ∃ p ys, xs = [.ref p] ∧ ((SqL X.K H p ys ∧ ∀ l, H l = none → Q (.ref l) (upd H l (.tup ys))) ∨ (SqT X.K H p ys ∧ Q (.ref p) H))) := by
  intro pins s σ H xs us Q I r h
  obtain ⟨p, ys, rfl, h⟩ := h
  obtain ⟨u, rfl, rx⟩ := vals1 r
  cases rx
  rcases h with ⟨hq, q⟩ | ⟨hq, q⟩
  · obtain ⟨its, r', pl, hz⟩ := I.list hq
    have hlen := r'.length
    refine call_tuple_list pl.isList (fun h' kp => ?_) (by simp only [List.size_toArray] <;> omega)
    have I1 : Inv X pins σ H { s with heap := h' } := I.kept (t' := s.toks) kp
    have I2 : Inv X pins σ (upd H h'.objs.size (.tup ys)) { s with heap := h'.push { cls := .type "tuple", data := .seq its.toArray } } :=
      I1.laid (t' := s.toks) (fun b o e => Heap.get?_push_of_some _ e) (Nat.le_refl _) (show ObjOk X.prog X.w _ _ _ (.tup ys) from ⟨hz, its, r', IsTup.new _ _⟩)
    exact ⟨.ref h'.objs.size, _, I2, rfl, q _ (I1.hok.fresh (Nat.le_refl _))⟩
  · obtain ⟨its, r', pl, hz⟩ := I.tuple hq
    exact call_tuple_same pl ⟨.ref p, H, I, rfl, q⟩

/-! ### the call of a builtin's method: o.m(..) -/
/-- the value is of that builtin type -/
def tyV (K : PySem.W.Frag) (T : String) (x : V) (H : Hp) : Prop := match x with
  | .str _ => T = "str"
  | .int _ => T = "int"
  | .ref p => (T = "list" ∧ ∃ xs, SqL K H p xs) ∨ (T = "tuple" ∧ ∃ o, K.lookup p = some o ∧ o.cls = .type "tuple" ∧ o.dict = none) ∨
      (T = "dict" ∧ ((∃ kvs, H p = some (.dK kvs)) ∨ ∃ kvs, H p = some (.dT kvs))) ∨ (T = "set" ∧ ∃ S n, H p = some (.set S n))
  | _ => False
theorem tyV_is {pins : List (Addr × Obj)} {σ : St} {H : Hp} {s : Shared} {T : String} {x : V} {v : Value} (I : Inv X pins σ H s) (r : RelV x v) (ty : tyV X.K T x H) :
    s.TypeIs v T ∧ ∀ a, v = .ref a → ∃ ob, s.heap.get? a = some ob ∧ ob.dict = none := by
  cases x with
  | str z =>
    obtain ⟨t, rfl⟩ := r
    cases (show T = "str" from ty)
    exact ⟨typeIs_str s z t, fun _ e => nomatch e⟩
  | int i =>
    obtain ⟨t, rfl⟩ := r
    cases (show T = "int" from ty)
    exact ⟨typeIs_int s i t, fun _ e => nomatch e⟩
  | ref p =>
    cases r
    rcases ty with ⟨rfl, xs, hq⟩ | ⟨rfl, o, hk, hc, hd⟩ | ⟨rfl, hk⟩ | ⟨rfl, S, n, hk⟩
    · obtain ⟨its, _, pl, _⟩ := I.list hq
      refine ⟨pl.isList.typeIs, fun a e => ?_⟩
      cases e
      obtain ⟨o, n, e, c, hd, _⟩ := pl
      exact ⟨o, e, hd⟩
    · refine ⟨⟨o, I.kIn p o hk, hc⟩, fun a e => ?_⟩
      cases e
      exact ⟨o, I.kIn _ o hk, hd⟩
    · have z : ∃ o, s.heap.get? p = some o ∧ o.ExactDict := by
        rcases hk with ⟨kvs, hk⟩ | ⟨kvs, hk⟩
        · obtain ⟨_, _, _, _, o, _, _, e, ex, _⟩ := I.hok p _ hk
          exact ⟨o, e, ex⟩
        · obtain ⟨_, _, _, _, o, _, _, e, ex, _⟩ := I.hok p _ hk
          exact ⟨o, e, ex⟩
      obtain ⟨o, e, ex⟩ := z
      refine ⟨⟨o, e, ex.1⟩, fun a e2 => ?_⟩
      cases e2
      exact ⟨o, e, ex.2.1⟩
    · obtain ⟨o, _, _, _, e, ex, _⟩ := I.hok p _ hk
      refine ⟨⟨o, e, ex.1⟩, fun a e2 => ?_⟩
      cases e2
      exact ⟨o, e, ex.2.1⟩
  | _ => exact False.elim ty
def tBM0 (K : PySem.W.Frag) (T : String) (r : V → List V → Hp → VK → Prop) (to : TE) : TE := fun σ H Q => to σ H fun x H1 => tyV K T x H1 ∧ r x [] H1 Q
def tBM (K : PySem.W.Frag) (T : String) (r : V → List V → Hp → VK → Prop) (to : TE) (t : TA) : TE := fun σ H Q => to σ H fun x H1 => tyV K T x H1 ∧ t σ H1 fun xs H2 => r x xs H2 Q
variable {o e : Expr} {es : List Expr} {to : TE} {t : TA} {name : Str} {apos cpos : Pos} {T id : String} {r : V → List V → Hp → VK → Prop}
theorem pe_bm0 (pa : PlainAttrs T) (slot : Slot T name id) (hty : typeOf (.builtin id) = pure (.type "method_descriptor")) (hm : MtR X id r) (ho : PE X o to)
    (hbase : attributeBase o name X.env (eval o X.env) = eval o X.env := by rfl) (hline : (apos.endLine == cpos.line) = true := by rfl) : PE X (.Call (.Attribute o name apos) [] [] cpos) (tBM0 X.K T r to) := by
  intro pins s σ H Q I h
  refine wpAny_Call_method0_late hbase hline (thn (ho pins s σ H _ I h) fun v s1 ⟨x, H1, I1, r1, ty, q1⟩ => ?_)
  obtain ⟨h1, h2⟩ := tyV_is I1 r1 ty
  exact ⟨T, id, pa, slot, hty, h1, h2, Calls.callWith_builtin rfl (PySem.evalArgs_none (hm pins s1 σ H1 x [] v [] Q I1 r1 .nil q1))⟩
theorem pe_bm (pa : PlainAttrs T) (slot : Slot T name id) (hty : typeOf (.builtin id) = pure (.type "method_descriptor")) (hm : MtR X id r) (ho : PE X o to) (ha : PA X (e :: es) t)
    (hbase : attributeBase o name X.env (eval o X.env) = eval o X.env := by rfl)
    (hfew : ((backTo cpos (starEach (e :: es) X.env)).all (fun x => !x.1) && (backToKw cpos (keywordEach [] X.env)).all (fun x => x.1.isSome)
      && decide ((e :: es).length + ([] : List Keyword).length + (if ([] : List Keyword).isEmpty then 0 else 1) < 30)) = true := by rfl)
    (hline : (apos.endLine == cpos.line) = true := by rfl) (hs : starEach (e :: es) X.env = (false, eval e X.env) :: starEach es X.env := by rfl) (hplain : (backTo cpos (starEach es X.env)).any (·.1) = false := by rfl) :
    PE X (.Call (.Attribute o name apos) (e :: es) [] cpos) (tBM X.K T r to t) := by
  intro pins s σ H Q I h
  refine wpAny_Call_method_late hbase hfew hline rfl (thn (ho pins s σ H _ I h) fun v s1 ⟨x, H1, I1, r1, ty, q1⟩ => ?_)
  obtain ⟨h1, h2⟩ := tyV_is I1 r1 ty
  refine ⟨T, id, pa, slot, hty, h1, h2, ?_⟩
  have hA := ha cpos pins s1 σ H1 _ I1 q1
  rw [hs] at hA ⊢
  refine Calls.callWith_builtin (by show (false || (backTo cpos (starEach es X.env)).any (·.1)) = false; rw [hplain] <;> rfl) (Calls.evalArgs_plain ?_)
  exact thn hA fun us s2 ⟨vs, H2, I2, r2, q2⟩ => hm pins s2 σ H2 x vs v us Q I2 r1 r2 q2
/- xs.append(e), list.index on a module's tuple .. are MtR facts of 06m -/
end
end L2

namespace L2
open PySem PySem.Spec PyProof.Rows

def MtM (X : Cx) (id : String) (r : V → List V → Hp → VK → Prop) : Prop :=
  ∀ (pins : List (Addr × Obj)) (s : Shared) (σ : St) (H : Hp) (x : V) (xs : List V) (v : Value) (us : List Value) (Q : VK), Inv X pins σ H s → RelV x v → Vals xs us → r x xs H Q →
    wpAny (model X.prog X.w) X.A (call (.builtin id) (v :: us)) (EP X pins σ Q) X.xe s

/-! ### lists of values -/
theorem Vals.one : ∀ {x : V} {us : List Value}, Vals [x] us → ∃ u, us = [u] ∧ RelV x u
  | _, _, .cons r .nil => ⟨_, rfl, r⟩
theorem Vals.two : ∀ {x y : V} {us : List Value}, Vals [x, y] us → ∃ u v, us = [u, v] ∧ RelV x u ∧ RelV y v
  | _, _, _, .cons r (.cons q .nil) => ⟨_, _, rfl, r, q⟩
theorem Vals.zero : ∀ {us : List Value}, Vals [] us → us = []
  | _, .nil => rfl
theorem Vals.dropLast {xs : List V} {us : List Value} (h : Vals xs us) : Vals xs.dropLast us.dropLast := by
  induction h with
  | nil => exact .nil
  | cons r t ih =>
    cases t with
    | nil => exact .nil
    | cons q t' => exact .cons r ih
theorem Vals.eraseIdx : ∀ {xs : List V} {us : List Value} (i : Nat), Vals xs us → Vals (xs.eraseIdx i) (us.eraseIdx i)
  | _, _, _, .nil => .nil
  | _, _, 0, .cons _ t => t
  | _, _, i + 1, .cons r t => .cons r (Vals.eraseIdx i t)
theorem Vals.reverse {xs : List V} {us : List Value} (h : Vals xs us) : Vals xs.reverse us.reverse := by
  induction h with
  | nil => exact .nil
  | cons r t ih => rw [List.reverse_cons, List.reverse_cons]; exact Vals.append ih (.cons r .nil)
theorem Vals.rep {xs : List V} {us : List Value} (h : Vals xs us) : ∀ k : Nat, Vals (List.replicate k xs).flatten (List.replicate k us).flatten
  | 0 => .nil
  | k + 1 => by
    rw [List.replicate_succ, List.replicate_succ, List.flatten_cons, List.flatten_cons]
    exact Vals.append h (Vals.rep h k)
theorem erase_last {α : Type} (l : List α) : l.eraseIdx (l.length - 1) = l.dropLast := by
  induction l with
  | nil => rfl
  | cons a r ih =>
    cases r with
    | nil => rfl
    | cons b r =>
      have e : (a :: b :: r).length - 1 = ((b :: r).length - 1) + 1 := by
        have h1 : (a :: b :: r).length = r.length + 2 := rfl
        have h2 : (b :: r).length = r.length + 1 := rfl
        omega
      rw [e, List.eraseIdx_cons_succ, ih]
      all_goals rfl
theorem len_erase {α : Type} : ∀ (l : List α) (i : Nat), (l.eraseIdx i).length ≤ l.length
  | [], _ => Nat.le_refl _
  | _ :: _, 0 => Nat.le_succ _
  | _ :: r, i + 1 => Nat.succ_le_succ (len_erase r i)
theorem foldl_rep (its : List Value) : ∀ (k : Nat) (acc : List Value),
    List.foldl (fun x1 x2 => x1 ++ x2) acc.toArray (List.replicate k its.toArray) = (acc ++ (List.replicate k its).flatten).toArray
  | 0, acc => by simp
  | k + 1, acc => by
    have e : acc.toArray ++ its.toArray = (acc ++ its).toArray := by simp
    have e2 : (acc ++ its) ++ (List.replicate k its).flatten = acc ++ (List.replicate (k + 1) its).flatten := by
      rw [List.replicate_succ, List.flatten_cons, List.append_assoc]
    rw [← e2, ← foldl_rep its k (acc ++ its), ← e, List.replicate_succ, List.foldl_cons]

section
variable {X : Cx} {pins : List (Addr × Obj)} {σ : St} {H : Hp} {s : Shared} {l b : Addr} {xs ys zs : List V}

/-! ### the two steps: a tracked list is rewritten, a new list is laid -/
theorem Inv.lset {its its' : List Value} {n : Nat} {f : Array Value → Array Value} {t' : Nat} (I : Inv X pins σ H s) (hH : H l = some (.lst xs))
    (e : s.heap.get? l = some { cls := .type "list", data := .seq its.toArray n }) (hf : f its.toArray = its'.toArray) (hv : Vals ys its') (hz : ys.length ≤ sizeLine) :
    Inv X pins σ (upd H l (.lst ys)) { s with heap := s.heap.update l (Obj.mapSeq f), toks := t' } := by
  have q := PySem.IsL.update e f
  rw [hf] at q
  refine I.write (x := l) (e := l) (by rw [hH]; exact trivial) (.inl rfl) (fun b' u hb hu => (Heap.get?_update_other s.heap (Obj.mapSeq f) (Ne.symm hb)).trans hu) ⟨_, q⟩ ?_
  exact ⟨hz, its', _, hv, q⟩
theorem Inv.lnew {its : List Value} {t' : Nat} (I : Inv X pins σ H s) (hv : Vals ys its) (hz : ys.length ≤ sizeLine) :
    Inv X pins σ (upd H s.heap.objs.size (.lst ys)) { s with heap := s.heap.push { cls := .type "list", data := .seq its.toArray }, toks := t' } :=
  I.laid (fun _ _ q => Heap.get?_push_of_some _ q) (Nat.le_refl _) ⟨hz, its, 0, hv, Heap.get?_push_size _ rfl⟩
theorem Inv.fresh (I : Inv X pins σ H s) : H s.heap.objs.size = none := I.hok.fresh (Nat.le_refl _)
theorem Inv.lstM (I : Inv X pins σ H s) (hH : H l = some (.lst xs)) : xs.length ≤ sizeLine ∧ ∃ (its : List Value) (n : Nat), Vals xs its ∧ xs.length = its.length ∧ s.heap.get? l = some { cls := .type "list", data := .seq its.toArray n } := by
  obtain ⟨z, its, n, r, e⟩ := I.hok l _ hH
  exact ⟨z, its, n, r, r.length, e⟩

theorem notLongL {n : Nat} (h : n ≤ sizeLine) : Builtin.List.listTooLong n = false := by
  unfold Builtin.List.listTooLong
  exact decide_eq_false (by omega)
end

section
variable {X : Cx}

/-! ### methods -/
def rAppend : V → List V → Hp → VK → Prop := fun x vs H Q => ∃ l xs y, x = .ref l ∧ vs = [y] ∧ H l = some (.lst xs) ∧ xs.length < sizeLine ∧ Q .non (upd H l (.lst (xs ++ [y])))
theorem mt_append : MtM X "list.append" rAppend := by
  intro pins s σ H x vs v us Q I rx rv h
  obtain ⟨l, xs, y, rfl, rfl, hH, hz, q⟩ := h
  cases rx
  obtain ⟨u, rfl, ru⟩ := rv.one
  obtain ⟨z, its, n, r, hl, e⟩ := I.lstM hH
  refine call_meets F.slot_list_append ⟨_, e, rfl⟩ F.entry_list_append (F.args_list_append_2 _ _) (PySem.list_append l its.toArray n u (by rw [List.size_toArray]; omega)) ⟨e, ?_⟩
  refine ⟨.non, _, I.lset (its' := its ++ [u]) hH e (by simp) (r.append (.cons ru .nil)) ?_, rfl, q⟩
  rw [List.length_append, List.length_singleton]
  omega

def rExtend : V → List V → Hp → VK → Prop := fun x vs H Q => ∃ l b xs zs, x = .ref l ∧ vs = [.ref b] ∧ H l = some (.lst xs) ∧ H b = some (.lst zs) ∧ xs.length + zs.length ≤ sizeLine ∧ Q .non (upd H l (.lst (xs ++ zs)))
theorem mt_extend : MtM X "list.extend" rExtend := by
  intro pins s σ H x vs v us Q I rx rv h
  obtain ⟨l, b, xs, zs, rfl, rfl, hH, hB, hz, q⟩ := h
  cases rx
  obtain ⟨u, rfl, ru⟩ := rv.one
  cases ru
  obtain ⟨z, its, n, r, hl, e⟩ := I.lstM hH
  obtain ⟨z2, its2, n2, r2, hl2, e2⟩ := I.lstM hB
  have hsz : its.toArray.size + its2.toArray.size ≤ sizeLine := by rw [List.size_toArray, List.size_toArray]; omega
  have hlong : ¬ (!its.toArray.isEmpty && Builtin.List.listTooLong (its.toArray.size + its2.toArray.size)) = true := by
    rw [notLongL hsz, Bool.and_false]
    exact Bool.false_ne_true
  refine call_meets F.slot_list_extend ⟨_, e, rfl⟩ F.entry_list_extend (F.args_list_extend_2 _ _)
    (AutoSeq1.list_extend_list_list_0 l its.toArray n b its2.toArray n2 hlong (by rw [List.size_toArray]; omega) (by omega)) ⟨e, e2, ?_⟩
  refine ⟨.non, _, I.lset (its' := its ++ its2) hH e (by simp) (r.append r2) ?_, rfl, q⟩
  rw [List.length_append]
  omega

def rPop : V → List V → Hp → VK → Prop := fun x vs H Q => ∃ l xs y, x = .ref l ∧ vs = [] ∧ H l = some (.lst xs) ∧ xs[xs.length - 1]? = some y ∧ Q y (upd H l (.lst xs.dropLast))
theorem mt_pop : MtM X "list.pop" rPop := by
  intro pins s σ H x vs v us Q I rx rv h
  obtain ⟨l, xs, y, rfl, rfl, hH, hy, q⟩ := h
  cases rx
  have hus := rv.zero
  subst hus
  obtain ⟨z, its, n, r, hl, e⟩ := I.lstM hH
  obtain ⟨u, hu, ru⟩ := r.get hy
  have hy' : its.toArray[its.toArray.size - 1]? = some u := by
    show its.toArray[its.length - 1]? = some u
    rw [← Array.getElem?_toList, ← hl]
    exact hu
  refine call_meets F.slot_list_pop ⟨_, e, rfl⟩ F.entry_list_pop (F.args_list_pop_1 _) (MeetsSeq.list_pop_last l its.toArray n u hy' (by rw [List.size_toArray]; omega)) ⟨e, ?_⟩
  refine ⟨y, _, I.lset (its' := its.dropLast) hH e ?_ r.dropLast ?_, ru, q⟩
  · show its.toArray.eraseIdxIfInBounds (its.toArray.size - 1) = its.dropLast.toArray
    rw [List.size_toArray, List.eraseIdxIfInBounds_toArray, erase_last]
  · rw [List.length_dropLast]
    omega

def rPopAt : V → List V → Hp → VK → Prop := fun x vs H Q => ∃ l xs i k y, x = .ref l ∧ vs = [.int i] ∧ H l = some (.lst xs) ∧ -(2 ^ 63) ≤ i ∧ i < 2 ^ 63 ∧ seqIndex? i xs.length = some k ∧ xs[k]? = some y ∧ Q y (upd H l (.lst (xs.eraseIdx k)))
theorem mt_popAt : MtM X "list.pop" rPopAt := by
  intro pins s σ H x vs v us Q I rx rv h
  obtain ⟨l, xs, i, k, y, rfl, rfl, hH, h1, h2, hk, hy, q⟩ := h
  cases rx
  obtain ⟨u, rfl, ru⟩ := rv.one
  obtain ⟨t, rfl⟩ := ru
  obtain ⟨z, its, n, r, hl, e⟩ := I.lstM hH
  obtain ⟨w, hw, rw'⟩ := r.get hy
  refine call_meets F.slot_list_pop ⟨_, e, rfl⟩ F.entry_list_pop (F.args_list_pop_2 _ _)
    (MeetsSeq.list_pop_at l its.toArray n i t k w (fitsIndex_both h1 h2) (by rw [List.size_toArray, ← hl]; exact hk) (by rw [← Array.getElem?_toList]; exact hw) (by rw [List.size_toArray]; omega)) ⟨e, ?_⟩
  refine ⟨y, _, I.lset (its' := its.eraseIdx k) hH e ?_ (r.eraseIdx k) ?_, rw', q⟩
  · show its.toArray.eraseIdxIfInBounds k = (its.eraseIdx k).toArray
    rw [List.eraseIdxIfInBounds_toArray]
  · have := len_erase xs k
    omega

def rReverse : V → List V → Hp → VK → Prop := fun x vs H Q => ∃ l xs, x = .ref l ∧ vs = [] ∧ H l = some (.lst xs) ∧ Q .non (upd H l (.lst xs.reverse))
theorem mt_reverse : MtM X "list.reverse" rReverse := by
  intro pins s σ H x vs v us Q I rx rv h
  obtain ⟨l, xs, rfl, rfl, hH, q⟩ := h
  cases rx
  have hus := rv.zero
  subst hus
  obtain ⟨z, its, n, r, hl, e⟩ := I.lstM hH
  refine call_meets F.slot_list_reverse ⟨_, e, rfl⟩ F.entry_list_reverse (F.args_list_reverse_1 _) (AutoSeq1.list_reverse_list_0 l its.toArray n (by rw [List.size_toArray]; omega)) ⟨e, ?_⟩
  refine ⟨.non, _, I.lset (its' := its.reverse) hH e (by simp) r.reverse ?_, rfl, q⟩
  rw [List.length_reverse]
  omega

def rClear : V → List V → Hp → VK → Prop := fun x vs H Q => ∃ l xs, x = .ref l ∧ vs = [] ∧ H l = some (.lst xs) ∧ Q .non (upd H l (.lst []))
theorem mt_clear : MtM X "list.clear" rClear := by
  intro pins s σ H x vs v us Q I rx rv h
  obtain ⟨l, xs, rfl, rfl, hH, q⟩ := h
  cases rx
  have hus := rv.zero
  subst hus
  obtain ⟨z, its, n, r, hl, e⟩ := I.lstM hH
  refine call_meets F.slot_list_clear ⟨_, e, rfl⟩ F.entry_list_clear (F.args_list_clear_1 _) (AutoSeq1.list_clear_list_0 l its.toArray n (by rw [List.size_toArray]; omega)) ⟨e, ?_⟩
  exact ⟨.non, _, I.lset (its' := []) (ys := []) hH e rfl .nil (Nat.zero_le _), rfl, q⟩

/-! ### list + list, list += list, list * int -/
def rCat : R2 := fun x y H Q => ∃ l b xs zs, x = .ref l ∧ y = .ref b ∧ H l = some (.lst xs) ∧ H b = some (.lst zs) ∧ xs.length + zs.length ≤ sizeLine ∧ ∀ p, H p = none → Q (.ref p) (upd H p (.lst (xs ++ zs)))
theorem op_cat : OpR X (binaryOp .Add) rCat := by
  intro pins s σ H x y v u Q I rx ry h
  obtain ⟨l, b, xs, zs, rfl, rfl, hH, hB, hz, q⟩ := h
  cases rx
  cases ry
  obtain ⟨z, its, n, r, hl, e⟩ := I.lstM hH
  obtain ⟨z2, its2, n2, r2, hl2, e2⟩ := I.lstM hB
  refine PySem.P.add_list e e2 ?_ (by rw [List.size_toArray, List.size_toArray]; omega)
  have ea : its.toArray ++ its2.toArray = (its ++ its2).toArray := by simp
  rw [ea]
  exact ⟨.ref _, _, I.lnew (t' := s.toks) (r.append r2) (by rw [List.length_append]; omega), rfl, q _ I.fresh⟩
/-- a list times an int (a negative one is nothing) -/
def rRep : R2 := fun x y H Q => ∃ l k xs, x = .ref l ∧ y = .int k ∧ H l = some (.lst xs) ∧ -(2 ^ 63) ≤ k ∧ k < 2 ^ 63 ∧ xs.length * k.toNat ≤ sizeLine ∧
  ∀ p, H p = none → Q (.ref p) (upd H p (.lst (List.replicate k.toNat xs).flatten))
theorem len_rep {α : Type} (xs : List α) (k : Nat) : (List.replicate k xs).flatten.length = k * xs.length := by
  induction k with
  | zero => simp
  | succ k ih => rw [List.replicate_succ, List.flatten_cons, List.length_append, ih, Nat.succ_mul, Nat.add_comm]
theorem op_rep : OpR X (binaryOp .Mult) rRep := by
  intro pins s σ H x y v u Q I rx ry h
  obtain ⟨l, k, xs, rfl, rfl, hH, h1, h2, hz, q⟩ := h
  cases rx
  obtain ⟨t, rfl⟩ := ry
  obtain ⟨z, its, n, r, hl, e⟩ := I.lstM hH
  have hlen : its.toArray.size * k.toNat ≤ sizeLine := by rw [List.size_toArray, ← hl]; exact hz
  have hcap : ¬ its.toArray.size * k.toNat > (2 ^ 63 - 1) / 8 := by
    have : (sizeLine : Nat) ≤ (2 ^ 63 - 1) / 8 := by decide
    omega
  have hfit : ¬ (!Builtin.List.listFitsIndex k) = true := by
    rw [fitsIndex_both h1 h2]
    exact Bool.false_ne_true
  have hlong : ¬ Builtin.List.listTooLong (its.toArray.size * k.toNat) = true := by
    rw [notLongL hlen]
    exact Bool.false_ne_true
  have hnew : List.foldl (fun x1 x2 => x1 ++ x2) #[] (List.replicate (if its.toArray.isEmpty = true then 0 else k.toNat) its.toArray) = (List.replicate k.toNat its).flatten.toArray := by
    have f0 : ∀ m : Nat, List.foldl (fun x1 x2 => x1 ++ x2) #[] (List.replicate m its.toArray) = (List.replicate m its).flatten.toArray := fun m => by
      have := foldl_rep its m []
      rw [List.nil_append] at this
      exact this
    rw [f0]
    cases its with
    | nil => simp
    | cons a r' => rw [if_neg (by simp)]
  refine wpAny_binaryOp_repeat_ref (T := "list") (U := "int") (by decide) ⟨_, e, rfl⟩ (fun s' => typeIs_int s' k t) noFill_list_mul F.fills_int_mul F.slot_int_rmul repeat_list F.slot_int_index.lookup
    (call_meets F.slot_int_rmul (typeIs_int s k t) F.entry_int_rmul (F.args_int_rmul_2 _ _) (int___rmul___int_list k t l its.toArray n)
      ⟨e, rfl, ⟨_, e, rfl⟩, call_meets F.slot_list_mul ⟨_, e, rfl⟩ F.entry_list_mul (F.args_list_mul_2 _ _) (AutoListH.list___mul___list_int_3 l its.toArray n k t hfit hcap hlong) ⟨e, ?_⟩⟩)
  rw [hnew]
  exact ⟨.ref _, _, I.lnew (t' := s.toks) (r.rep k.toNat) (by rw [len_rep, Nat.mul_comm]; exact hz), rfl, q _ I.fresh⟩

/-! ### del xs[i] -/
theorem del_list {pins : List (Addr × Obj)} {s : Shared} {σ : St} {H : Hp} {l : Addr} {xs : List V} {i : Int} {t : Tok} {k : Nat} {Q : Unit → Shared → Prop} (I : Inv X pins σ H s) (hH : H l = some (.lst xs))
    (h1 : -(2 ^ 63) ≤ i) (h2 : i < 2 ^ 63) (hk : seqIndex? i xs.length = some k) (h : ∀ s', Inv X pins σ (upd H l (.lst (xs.eraseIdx k))) s' → Q () s') :
    wpAny (model X.prog X.w) X.A (delItem (.ref l) (.int i t)) Q X.xe s := by
  obtain ⟨z, its, n, r, hl, e⟩ := I.lstM hH
  refine PySem.P.delItem_list (k := k) e (fitsIndex_both h1 h2) (by rw [List.size_toArray, ← hl]; exact hk) (h _ ?_) (by rw [List.size_toArray]; omega)
  refine I.lset (its' := its.eraseIdx k) (t' := s.toks) hH e ?_ (r.eraseIdx k) ?_
  · show its.toArray.eraseIdxIfInBounds k = (its.eraseIdx k).toArray
    rw [List.eraseIdxIfInBounds_toArray]
  · have := len_erase xs k
    omega
end

/-! ### xs[a:b] = ys -/
section
variable {prog : Program} {w : World} {A : Around} {E : Value → Shared → Prop} {s : Shared}
theorem splice_eq (its its2 : List Value) (a c : Nat) : its.toArray.extract 0 a ++ its2.toArray ++ its.toArray.extract c its.toArray.size = (its.take a ++ its2 ++ its.drop c).toArray := by
  apply Array.toList_inj.mp
  first
    | (simp
       exact List.take_of_length_le (by simp))
    | simp [List.take_of_length_le]
    | simp
theorem bounds_run {a c n : Nat} (hac : a ≤ c) (hc : c ≤ n) : sliceBounds (some (a : Int)) (some (c : Int)) none n = ((a : Int), (c : Int), 1) := by
  simp only [sliceBounds, Option.getD_none]
  have h1 : ¬ ((a : Int) < 0) := by omega
  have h2 : ¬ ((c : Int) < 0) := by omega
  simp only [h1, h2, if_false, show (1 : Int) > 0 by decide, if_true]
  congr 1
  · omega
  · congr 1; omega
set_option maxRecDepth 100000 in
/-- list.__setitem__ with a slice of step one and another list -/
theorem setItem_slice {l b sl : Addr} {items new : Array Value} {n n2 : Nat} {vl vu : Value} {a c : Nat} {Q : Unit → Shared → Prop}
    (e : s.heap.get? l = some { cls := .type "list", data := .seq items n }) (e2 : s.heap.get? b = some { cls := .type "list", data := .seq new n2 }) (hne : l ≠ b)
    (hs : s.heap.IsSliceOf sl vl vu .none) (pl : IsPart vl (some (a : Int))) (pu : IsPart vu (some (c : Int))) (hac : a ≤ c) (hc : c ≤ items.size)
    (hsz : items.size + new.size ≤ sizeLine) (h : Q () { s with heap := s.heap.update l (Obj.mapSeq fun xs => xs.extract 0 a ++ new ++ xs.extract c xs.size) }) :
    wpAny (model prog w) A (setItem (.ref l) (.ref sl) (.ref b)) Q E s := by
  have hl : s.heap.IsList l items := PySem.IsL.isList e
  have hb : s.heap.IsList b new := PySem.IsL.isList e2
  obtain ⟨os, hos, hcs, hds⟩ := id hs
  have hTs : s.TypeIs (.ref sl) "slice" := ⟨os, hos, hcs⟩
  have hstep : ¬ ((rawPart none == rawInt 0) = true) := Bool.false_ne_true
  have hsame : Builtin.List.listSameRef (.ref l) (.ref b) = false := by
    unfold Builtin.List.listSameRef
    exact beq_eq_false_iff_ne.mpr hne
  have hmax : (max (a : Int) (c : Int)).toNat = c := by omega
  have hz' : ((fun xs : Array Value => xs.extract 0 a ++ new ++ xs.extract c xs.size) items).size ≤ sizeLine + 1 := by
    simp only [Array.size_append, Array.size_extract]
    omega
  unfold setItem
  try with_reducible refine wpAny_holding ?_
  first | refine wpAny_bind (wpAny_pure ?_) | skip
  refine wpAny_bind (wpAny_sequenceKey hl.typeIs (by decide) ?_)
  refine wpAny_bind (wpAny_callSpecial?_slot (name := Str.ofString "__setitem__") hl.typeIs slot_list_setitem
    (wpAny_call_entry slot_list_setitem hl.typeIs entry_list_setitem ?_ (args_list_setitem _ _ _)))
  show wpAny _ _ (Builtin.List.listSubscript? (.ref sl) >>= _) _ _ s
  refine wpAny_bind ?_
  unfold Builtin.List.listSubscript?
  refine wpAny_bind (wpAny_specialOf hTs slice_no_index ?_)
  simp only [Option.isNone_none, if_true]
  refine wpAny_pure ?_
  show wpAny _ _ (typeOf (.ref sl) >>= _) _ _ s
  refine wpAny_bind (wpAny_typeOf hTs ?_)
  first
    | rw [if_neg (by decide)]
    | refine PySem.W.KFB.if_not (by decide) ?_
  rw [listSliceParts_eq]
  refine wpAny_bind (wpAny_bind (wpAny_field hos hds (x := .none) rfl (wpAny_bind (wpAny_listPart .none ?_))))
  rw [if_neg hstep]
  refine wpAny_bind (wpAny_field hos hds (x := vl) rfl (wpAny_bind (wpAny_listPart pl ?_)))
  refine wpAny_bind (wpAny_field hos hds (x := vu) rfl (wpAny_bind (wpAny_listPart pu (wpAny_pure ?_))))
  first
    | simp only [hsame, Bool.false_eq_true, if_false]
    | refine PySem.W.KFB.if_not hsame ?_
    | (dsimp only
       rw [if_neg (by rw [hsame]; exact Bool.false_ne_true)])
  refine wpAny_bind (m := Builtin.List.listAllItems (.ref b) "must assign iterable to extended slice") ?_
  unfold Builtin.List.listAllItems
  refine wpAny_bind (wpAny_typeOf hb.typeIs ?_)
  first
    | refine PySem.W.KFB.if_so (by decide) ?_
    | rw [if_pos (by decide)]
    | simp only [beq_self_eq_true, Bool.true_or, if_true]
  unfold Builtin.List.listItems
  refine wpAny_bind (wpAny_seqItems e2 rfl (wpAny_pure ?_))
  refine wpAny_bind (wpAny_bind (wpAny_seqItems e rfl (wpAny_pure ?_)))
  refine wpAny_bind (wpAny_of_eq ((sliceIndices_raw (some (a : Int)) (some (c : Int)) none items.size (by simp)).trans (congrArg (pure : Int × Int × Int → Sem (Int × Int × Int)) (bounds_run hac hc))) ?_)
  show wpAny _ _ (if ((1 : Int) == 1) = true then _ else _) _ _ s
  rw [if_pos (by decide)]
  refine wpAny_bind (wpAny_rule ?_)
  first
    | simp only [notLongL hsz, Bool.false_eq_true, if_false]
    | refine PySem.W.KFB.if_not (notLongL hsz) ?_
  first | refine wpAny_bind (wpAny_pure ?_) | skip
  show wpAny _ _ (updateSeq l (fun xs => xs.extract 0 ((a : Int)).toNat ++ new ++ xs.extract (max (a : Int) (c : Int)).toNat xs.size) >>= _) _ _ s
  rw [hmax, Int.toNat_natCast]
  refine wpAny_bind (wpAny_updateSeq (hz := Nat.le_trans (Nat.le_add_right _ _) hsz) (_hz' := hz') e rfl ?_)
  refine wpAny_bind (wpAny_letGo ?_)
  first
    | exact wpAny_bind (wpAny_pure (wpAny_pure ⟨.none, rfl, wpAny_pure h⟩))
    | exact wpAny_pure ⟨.none, rfl, wpAny_pure h⟩
end

section
variable {X : Cx}
/-- xs[a:c] = ys of another list, at the value level: sl is the slice object that was just made -/
theorem set_slice {pins : List (Addr × Obj)} {s : Shared} {σ : St} {H : Hp} {l b sl : Addr} {xs ys : List V} {a c : Int} {vl vu : Value} {Q : Unit → Shared → Prop} (I : Inv X pins σ H s)
    (hH : H l = some (.lst xs)) (hB : H b = some (.lst ys)) (hne : l ≠ b) (hs : s.heap.IsSliceOf sl vl vu .none) (ra : RelV (.int a) vl) (rc : RelV (.int c) vu) (h0 : 0 ≤ a) (hac : a ≤ c) (hc : c ≤ xs.length)
    (hz : xs.length + ys.length ≤ sizeLine) (h : ∀ s', Inv X pins σ (upd H l (.lst (xs.take a.toNat ++ ys ++ xs.drop c.toNat))) s' → Q () s') :
    wpAny (model X.prog X.w) X.A (setItem (.ref l) (.ref sl) (.ref b)) Q X.xe s := by
  obtain ⟨ta, rfl⟩ := ra
  obtain ⟨tc, rfl⟩ := rc
  obtain ⟨z, its, n, r, hl, e⟩ := I.lstM hH
  obtain ⟨z2, its2, n2, r2, hl2, e2⟩ := I.lstM hB
  obtain ⟨a', rfl⟩ := Int.eq_ofNat_of_zero_le h0
  obtain ⟨c', rfl⟩ := Int.eq_ofNat_of_zero_le (Int.le_trans h0 hac)
  simp only [Int.toNat_natCast] at h
  refine setItem_slice (a := a') (c := c') e e2 hne hs (.int _ _) (.int _ _) (by omega) (by rw [List.size_toArray]; omega) (by rw [List.size_toArray, List.size_toArray]; omega) (h _ ?_)
  refine I.lset (its' := its.take a' ++ its2 ++ its.drop c') (t' := s.toks) hH e ?_ (Vals.append (Vals.append (r.take _) r2) (r.drop _)) ?_
  · exact splice_eq its its2 a' c'
  · rw [List.length_append, List.length_append, List.length_take, List.length_drop]
    omega
end
end L2

namespace Att
open PySem PySem.W PySem.Calls PyProof.Rows

/-! ### the script -/
theorem ints_of_wellAll {P : Params} {h : Heap} : ∀ (ns : List Int) (vs : List Value), WellAll P h vs (ns.map WData.int) → IntsAre vs ns := by
  intro ns
  induction ns with
  | nil =>
    intro vs w
    rw [List.map_nil] at w
    cases w
    exact .nil
  | cons n ns ih =>
    intro vs w
    rw [List.map_cons] at w
    cases w with
    | cons a b =>
      cases a
      exact .cons _ _ (ih _ b)

theorem script_of {l : OpenLaw} {n : Nat} (hn : l.most = some n) {P : Params} {h : Heap} {args : List WData} {vals : List Value}
    (hpre : l.row.toRowW.claim.pre args = true) (hwl : WellAll P h vals args) :
    ∃ a vs ns, vals = [Value.ref a] ∧ args = [WData.list (ns.map WData.int)] ∧ h.get? a = some { cls := .type "list", data := .seq vs.toArray } ∧ IntsAre vs ns ∧ ns.length ≤ n := by
  have hsh : WShape.hasAll [] args [.list .int] = true := (pre_splitW hpre).1
  have hc : l.pre.holds [] { args := args } = true := (pre_splitW hpre).2
  obtain ⟨d, r, rfl, h1, h2⟩ := hasAllW_cons hsh
  obtain rfl := hasAllW_nil h2
  obtain ⟨xs, rfl, h3⟩ := hasW_list h1
  obtain ⟨ns, rfl⟩ := items_int h3
  have hlen : ns.length ≤ n := by
    unfold OpenLaw.pre at hc
    have h4 : (WTm.not (.lt (.lit (.int (n : Int))) (.len (.arg 0)))).holds [] { args := [.list (ns.map .int)] } = true := by
      have h4 := (holds_andW hc).1
      rw [hn] at h4
      exact h4
    have h5 := condW_of h4 (w_not (w_lt w_lit (w_len_list (w_arg rfl))))
    rw [List.length_map] at h5
    refine Nat.le_of_not_lt fun q => ?_
    have q' : (n : Int) < ((ns.length : Nat) : Int) := by omega
    first
      | (rw [decide_eq_true q'] at h5; exact absurd h5 (by decide))
      | (simp at h5; omega)
  cases hwl with
  | cons w1 w2 =>
    cases w2
    cases w1 with
    | list ho hall => exact ⟨_, _, ns, rfl, rfl, ho, ints_of_wellAll ns _ hall, hlen⟩

theorem post_true (l : OpenLaw) (args : List WData) : l.row.toRowW.claim.post args (.bool true) args = true :=
  postW_of (r := l.row.toRowW) (X := (true == true))
    (show WShape.has [] (.bool true) .bool = true by first | rfl | decide | simp [WShape.has, WShape.arms, WShape.armsAll])
    (show (WTm.eq .res (.lit (.bool true))).value [] { args := args, res := some (.bool true), after := args } = some (.bool (true == true)) from w_eq_bool (w_res rfl) w_lit) rfl

/-! ### the attachment: holds_open's last premise (the goal 'hc' behind k_head) from a wpAny of the law's body -/
theorem attach {l : OpenLaw} {n : Nat} {q : Program} {loose : List Str} {XP : (Str → Option Value) → Heap → Prop} {YP : World → Heap → Prop} {d : DefRec} {x : Str}
    (hn : l.most = some n) (hdf : d.params.defaults = [])
    (hbind : ∀ pm cd doc v : Value, bindArgs (docDef d.name d.params d.body d.scope pm cd doc) ⟨[v], []⟩ = pure [(x, v)])
    (hx : d.scope.names.lookup x = some .local ∨ d.scope.names.lookup x = some .cell)
    (hk : d.scope.kind = .function) (hco : d.scope.isCoroutine = false) (hgen : d.scope.isGenerator = false)
    (body : ∀ (w : World) (s₀ s₁ s : Shared) (mg mb : Str → Option Value) (fa : Addr) (o : Obj) (pm cd doc : Value) (a : Addr) (vs : List Value) (ns : List Int),
      Ground q loose [] XP w s₀ mg mb s₁.heap → YP w s₁.heap →
      s₁.heap.get? fa = some o → o.data = .func (docDef d.name d.params d.body d.scope pm cd doc) → s₁.heap.CodeRec cd d.name → mg d.name = some (.ref fa) →
      s₁.heap.get? a = some { cls := .type "list", data := .seq vs.toArray } → IntsAre vs ns → ns.length ≤ n →
      s.gens = #[] → s.os = s₁.os →
      Fr s₁.heap s₁.heap.objs.size s.heap (bindL (envOfC d.name d.scope s₁.heap.objs.size fa cd).kindOf [(x, .ref a)] fun _ => none) →
      Cl s₁.heap.objs.size (cellsFrom (s₁.heap.objs.size + 1) d.scope.names []) s.heap (bindC (envOfC d.name d.scope s₁.heap.objs.size fa cd).kindOf [(x, .ref a)] fun _ => none) →
      wpAny (model l.prog w) (callerA.deeper (envOfC d.name d.scope s₁.heap.objs.size fa cd)) (execs d.body (envOfC d.name d.scope s₁.heap.objs.size fa cd))
        (fun f s' => f = .ret (.bool true) ∧ OldK s₁.heap s'.heap ∧ s'.os = s₁.os ∧ AllBare s'.gens) (fun _ _ => False) s) :
    WalkO q loose XP YP l.row.toRowW d [] (fun f vs => PySem.call f vs) := by
  intro w s₀ s₁ mg mb G Y fa o pm cd doc dV kV ho hd hcd hD hmg hg args vals as hpre hlay hrd hwl hlo
  obtain rfl : dV = .none := Dflts.none hD hdf
  obtain rfl : kV = .none := Dflts.noKw hD
  obtain ⟨a, vs, ns, rfl, rfl, hobj, hints, hlen⟩ := script_of hn hpre hwl
  refine enter_call ?_
  refine call_cells_ret (o := o) (by rw [depth_caller]; decide) ho (fd_plain hd) G.T.nolimit hcd (hbind pm cd doc (.ref a)) (fun y hy => ?_) (fun h₁ tk F X => ?_) hco hgen hk
  · obtain rfl : y = (x, Value.ref a) := List.mem_singleton.mp hy
    rcases hx with e | e
    · exact .inl e
    · exact .inr ⟨e, cellsFrom_some _ _ _ (.inl e)⟩
  · refine wpAny_mono (body w s₀ s₁ { s₁ with heap := h₁, toks := tk } mg mb fa o pm cd doc a vs ns G Y ho (fd_plain hd) hcd hmg hobj hints hlen hg rfl F X) (fun f s' hq => ?_) (fun _ _ hq => hq)
    obtain ⟨rfl, h2, h3, h4⟩ := hq
    exact ⟨.inl ⟨.bool true, .bool true, [], rfl, fun _ => rfl, .bool true, post_true l _, fun _ => ⟨List.Pairwise.nil, fun _ hm => (nomatch hm)⟩⟩, h2, h3, h4⟩

/-- the same from a codeAny of the CALL (for a layer whose function contracts speak of calls) -/
theorem attach_call {l : OpenLaw} {n : Nat} {q : Program} {loose : List Str} {XP : (Str → Option Value) → Heap → Prop} {YP : World → Heap → Prop} {d : DefRec}
    (hn : l.most = some n) (hdf : d.params.defaults = [])
    (call : ∀ (w : World) (s₀ s₁ : Shared) (mg mb : Str → Option Value) (fa : Addr) (o : Obj) (pm cd doc : Value) (a : Addr) (vs : List Value) (ns : List Int),
      Ground q loose [] XP w s₀ mg mb s₁.heap → YP w s₁.heap →
      s₁.heap.get? fa = some o → o.data = .func (docDef d.name d.params d.body d.scope pm cd doc) → s₁.heap.CodeRec cd d.name → mg d.name = some (.ref fa) →
      s₁.heap.get? a = some { cls := .type "list", data := .seq vs.toArray } → IntsAre vs ns → ns.length ≤ n → s₁.gens = #[] →
      codeAny (model l.prog w) callerA (.call (.ref fa) ⟨[.ref a], []⟩) (fun r s' => r = .ok (.ret (.bool true)) ∧ OldK s₁.heap s'.heap ∧ s'.os = s₁.os ∧ AllBare s'.gens) s₁) :
    WalkO q loose XP YP l.row.toRowW d [] (fun f vs => PySem.call f vs) := by
  intro w s₀ s₁ mg mb G Y fa o pm cd doc dV kV ho hd hcd hD hmg hg args vals as hpre hlay hrd hwl hlo
  obtain rfl : dV = .none := Dflts.none hD hdf
  obtain rfl : kV = .none := Dflts.noKw hD
  obtain ⟨a, vs, ns, rfl, rfl, hobj, hints, hlen⟩ := script_of hn hpre hwl
  refine enter_call (codeAny_mono (call w s₀ s₁ mg mb fa o pm cd doc a vs ns G Y ho (fd_plain hd) hcd hmg hobj hints hlen hg) fun r s' hq => ?_)
  obtain ⟨rfl, h2, h3, h4⟩ := hq
  exact ⟨.inl ⟨.bool true, .bool true, [], rfl, fun _ => rfl, .bool true, post_true l _, fun _ => ⟨List.Pairwise.nil, fun _ hm => (nomatch hm)⟩⟩, h2, h3, h4⟩

/-- the same where the top left finished generators (o_head chose holds_openN): nothing may have changed at all and no generator may be left -/
theorem attachN {l : OpenLaw} {n : Nat} {q : Program} {loose : List Str} {XP : (Str → Option Value) → Heap → Prop} {YP : World → Heap → Prop} {d : DefRec} {x : Str}
    (hn : l.most = some n) (hdf : d.params.defaults = [])
    (hbind : ∀ pm cd doc v : Value, bindArgs (docDef d.name d.params d.body d.scope pm cd doc) ⟨[v], []⟩ = pure [(x, v)])
    (hx : d.scope.names.lookup x = some .local ∨ d.scope.names.lookup x = some .cell)
    (hk : d.scope.kind = .function) (hco : d.scope.isCoroutine = false) (hgen : d.scope.isGenerator = false)
    (body : ∀ (w : World) (s₀ s₁ s : Shared) (mg mb : Str → Option Value) (fa : Addr) (o : Obj) (pm cd doc : Value) (a : Addr) (vs : List Value) (ns : List Int),
      Ground q loose [] XP w s₀ mg mb s₁.heap → YP w s₁.heap →
      s₁.heap.get? fa = some o → o.data = .func (docDef d.name d.params d.body d.scope pm cd doc) → s₁.heap.CodeRec cd d.name → mg d.name = some (.ref fa) →
      s₁.heap.get? a = some { cls := .type "list", data := .seq vs.toArray } → IntsAre vs ns → ns.length ≤ n →
      s.gens = #[] → s.os = s₁.os →
      Fr s₁.heap s₁.heap.objs.size s.heap (bindL (envOfC d.name d.scope s₁.heap.objs.size fa cd).kindOf [(x, .ref a)] fun _ => none) →
      Cl s₁.heap.objs.size (cellsFrom (s₁.heap.objs.size + 1) d.scope.names []) s.heap (bindC (envOfC d.name d.scope s₁.heap.objs.size fa cd).kindOf [(x, .ref a)] fun _ => none) →
      wpAny (model l.prog w) (callerA.deeper (envOfC d.name d.scope s₁.heap.objs.size fa cd)) (execs d.body (envOfC d.name d.scope s₁.heap.objs.size fa cd))
        (fun f s' => f = .ret (.bool true) ∧ (∀ b o, s₁.heap.get? b = some o → s'.heap.get? b = some o) ∧ s'.os = s₁.os ∧ s'.gens = #[]) (fun _ _ => False) s) :
    WalkN q loose XP YP l.row.toRowW d [] (fun f vs => PySem.call f vs) := by
  intro w s₀ s₁ mg mb G Y fa o pm cd doc dV kV ho hd hcd hD hmg hg args vals as hpre hlay hrd hwl hlo
  obtain rfl : dV = .none := Dflts.none hD hdf
  obtain rfl : kV = .none := Dflts.noKw hD
  obtain ⟨a, vs, ns, rfl, rfl, hobj, hints, hlen⟩ := script_of hn hpre hwl
  refine enter_callW ?_
  refine call_cells_ret (o := o) (by rw [depth_caller]; decide) ho (fd_plain hd) G.T.nolimit hcd (hbind pm cd doc (.ref a)) (fun y hy => ?_) (fun h₁ tk F X => ?_) hco hgen hk
  · obtain rfl : y = (x, Value.ref a) := List.mem_singleton.mp hy
    rcases hx with e | e
    · exact .inl e
    · exact .inr ⟨e, cellsFrom_some _ _ _ (.inl e)⟩
  · refine wpAny_mono (body w s₀ s₁ { s₁ with heap := h₁, toks := tk } mg mb fa o pm cd doc a vs ns G Y ho (fd_plain hd) hcd hmg hobj hints hlen hg rfl F X) (fun f s' hq => ?_) (fun _ _ hq => hq)
    obtain ⟨rfl, h2, h3, h4⟩ := hq
    exact ⟨.inl ⟨.bool true, .bool true, [], rfl, fun _ => rfl, .bool true, post_true l _, fun _ => ⟨List.Pairwise.nil, fun _ hm => (nomatch hm)⟩⟩, h2, h3, h4⟩

/-! ### rules over ANY heap (no ledger) from facts about the written part K: the library's own take a ledger (News) for what they write -/
section
variable {prog : Program} {w : World} {A : Around} {E : Value → Shared → Prop} {s : Shared} {K : Frag}

/-- a def of the module, or a method (qual 'C.m'), entered: the frame is the next address; cells behind it -/
theorem call_fn {R : Result → Shared → Prop} {name qual : Str} {params : Arguments} {body : List Stmt} {scope : Scope} {dV kV doc pm cdv ct oc : Value} {an od : Option Addr} {osl : Array (Option Value)} {f : Addr} {args : Args} {binds : List (Str × Value)}
    (X : K.In s.heap) (hlim : s.heap.NoLimit) (ho : K.lookup f = some ⟨oc, od, .func (fnOf name qual params body scope dV kV doc pm an cdv ct), osl⟩) (hcd : codeIn K cdv qual = true) (hroom : A.depth < recursionLimit)
    (hbind : BindsTo s (fnOf name qual params body scope dV kV doc pm an cdv ct) args binds)
    (hkind : (binds.all fun y => scope.names.lookup y.1 == some .local || scope.names.lookup y.1 == some .cell) = true)
    (h : ∀ s₁, InCallC s s.heap.objs.size (bindL (envOfC qual scope s.heap.objs.size f cdv).kindOf binds fun _ => none) (cellsFrom (s.heap.objs.size + 1) scope.names [])
        (bindC (envOfC qual scope s.heap.objs.size f cdv).kindOf binds fun _ => none) s₁ →
      wpAny (model prog w) (A.deeper (envOfC qual scope s.heap.objs.size f cdv)) (execs body (envOfC qual scope s.heap.objs.size f cdv))
        (fun fl s' => R (.ok (.ret (match fl with | .ret v => v | _ => .none))) s')
        (fun e s' => wpAny (model prog w) (A.deeper (envOfC qual scope s.heap.objs.size f cdv)) (leaving (envOfC qual scope s.heap.objs.size f cdv) e) (fun _ s'' => R (.error e) s'') (fun e' s'' => R (.error e') s'') s') s₁)
    (hco : scope.isCoroutine = false) (hgen : scope.isGenerator = false) (hk : scope.kind = .function) : codeAny (model prog w) A (.call (.ref f) args) R s := by
  refine codeAny_call_function hroom (X _ _ ho) rfl hco hgen rfl (codeRec_of X hcd) (hbind _ _ _ _ ?_)
  refine wpAny_newFunctionEnv_cells hk (kindsX hkind _) fun env he s₁ x => ?_
  subst he
  exact ⟨hlim.keeps x.toInCall.keep, codeAny_func (h s₁ x)⟩

/-- C(..): dict at size, instance at size + 1, then __init__ -/
theorem make_obj {R : Result → Shared → Prop} {C fI : Addr} {rest : List Value} {kw : List (Str × Value)}
    (X : K.In s.heap) (hm : makesIn K C = true) (hi : findIn K (.ref C) "__init__" = some (some (.ref fI))) (hf : isFn K (.ref fI) = true)
    (h : codeAny (model prog w) (A.under (.builtin "type.__call__" ⟨.ref C :: rest, kw⟩)) (.call (.ref fI) ⟨.ref (s.heap.objs.size + 1) :: rest, kw⟩) (InitBack (s.heap.objs.size + 1) R)
      { s with heap := (s.heap.push emptyDict).push (instObj C s.heap.objs.size) }) : codeAny (model prog w) A (.call (.ref C) ⟨rest, kw⟩) R s := by
  obtain ⟨hh, g, d, t, os⟩ := s
  exact make_core (makes_of X hm) (looks_findIn X hi) (fun self => bind_fn X self (beq_iff_eq.mp hf)) (.inl rfl) h

/-- x.name where the instance's dict holds the name and the class does not -/
theorem get_field {x C : Addr} {ox : Obj} {es : List DictEntry} {n : Nat} {name : Str} {expr : Bool} {v : Value} {Q : Value → Shared → Prop}
    (X : K.In s.heap) (I : PySem.W.InstAt s.heap x ox C (some (dictOf es n))) (hg : plainGet K C name = true) (hh : hasDictIn K C = true) (ha : findIn K (.ref C) name = some none)
    (hl : getL name es = some (some v)) (hv : handedIn v = true) (h : Q v { s with toks := s.toks + 1 }) : wpAny (model prog w) A (getAttr (.ref x) name expr) Q E s :=
  get_value X I (plainGet_of hg).1 (findObj_own hh ha rfl hl) hv h

/-- x.m(..): the method found in the class -/
theorem get_method {x C f : Addr} {ox : Obj} {es : List DictEntry} {n : Nat} {name : Str} {pl : Sem Bool} {Q : Value × List Value → Shared → Prop}
    (X : K.In s.heap) (I : PySem.W.InstAt s.heap x ox C (some (dictOf es n))) (hg : plainGet K C name = true) (hf : findIn K (.ref C) name = some (some (.ref f))) (ht : isFn K (.ref f) = true)
    (hl : getL name es = some none) (h : Q (.ref f, [.ref x]) s) : wpAny (model prog w) A (getMethod (.ref x) name pl) Q E s :=
  method_fn X I (plainGet_of hg).1 (plainGet_of hg).2 hf (beq_iff_eq.mp ht) (by show (lookIn name (dictOf es n)).map _ = _; rw [lookIn_dict, hl]; rfl) h

/-! the whole heap as the ledger: makes every rule that writes through a ledger a rule over any heap -/
def noObjs (h : Heap) : Heap := { h with objs := #[] }
theorem noObjs_get (h : Heap) (b : Addr) : (noObjs h).get? b = none := by
  cases e : (noObjs h).get? b with
  | none => rfl
  | some o => exact absurd (Heap.lt_size e) (Nat.not_lt_zero _)
def ledger (h : Heap) (L d : Addr) : List (Addr × Obj) := (List.range h.objs.size).filterMap fun a => if a = L ∨ a = d then none else (h.get? a).map fun o => (a, o)
theorem mem_ledger {h : Heap} {L d a : Addr} {o : Obj} : (a, o) ∈ ledger h L d ↔ a ≠ L ∧ a ≠ d ∧ h.get? a = some o := by
  unfold ledger
  rw [List.mem_filterMap]
  constructor
  · rintro ⟨b, _, e⟩
    split at e
    · cases e
    · rename_i hb
      obtain ⟨o', ho, e'⟩ := Option.map_eq_some_iff.mp e
      cases e'
      exact ⟨fun q => hb (.inl q), fun q => hb (.inr q), ho⟩
  · rintro ⟨n1, n2, ho⟩
    refine ⟨a, List.mem_range.mpr (Heap.lt_size ho), ?_⟩
    rw [if_neg (show ¬ (a = L ∨ a = d) from fun q => q.elim n1 n2), ho] <;> rfl
theorem news_ledger {h : Heap} {L d : Addr} {od : Obj} (hne : d ≠ L) (ho : h.get? d = some od) : News (noObjs h) L h ([] ++ (d, od) :: ledger h L d) := by
  rintro ⟨a, o⟩ hp
  rcases List.mem_cons.mp hp with e | hp
  · cases e
    exact ⟨ho, hne, noObjs_get _ _⟩
  · obtain ⟨n1, n2, e⟩ := mem_ledger.mp hp
    exact ⟨e, n1, noObjs_get _ _⟩
theorem fr_all {h : Heap} {L : Addr} {m : Str → Option Value} (n : h.Ns L m) : Fr (noObjs h) L h m :=
  ⟨n, fun b o e => (by rw [noObjs_get] at e; cases e), Nat.zero_le _⟩
/-- Upd of the head entry (for append_K, setItem_K ..) -/
theorem upd_ledger {h : Heap} {L d : Addr} {o o' : Obj} : Upd d o o' ((d, o) :: ledger h L d) ((d, o') :: ledger h L d) :=
  .head fun ⟨_, _⟩ hp => (mem_ledger.mp hp).2.1

/-- x.name = v over any heap: L is any namespace of the heap (the frame's, say): its map stays, its object is not told; all else but the dict stays -/
theorem set_field {x C dx L : Addr} {ox : Obj} {m : Str → Option Value} {es es' : List DictEntry} {n n' : Nat} {name : Str} {v : Value} {Q : Unit → Shared → Prop}
    (X : K.In s.heap) (I : PySem.W.InstAt s.heap x ox C (some (dictOf es n))) (hd : ox.dict = some dx) (hL : s.heap.Ns L m) (hne : dx ≠ L)
    (hs : findIn K (.ref C) "__setattr__" = some (some (.builtin "object.__setattr__"))) (hp : plainOver K C = true) (ht : takerIn K C name = some none) (hh : hasDictIn K C = true) (hl : (getL name es).isSome = true)
    (e : (putL name (PyData.keyHash w.params name) (.str name (s.toks + 1)) v es, putN name es n) = (es', n')) (hz : es'.length ≤ 1000)
    (h : ∀ h' : Heap, h'.Ns L m → h'.get? dx = some (dictOf es' n') → (∀ b o, b ≠ dx → b ≠ L → s.heap.get? b = some o → h'.get? b = some o) → Q () { s with heap := h', toks := s.toks + 2 }) :
    wpAny (model prog w) A (setAttr (.ref x) name v) Q E s := by
  obtain ⟨e1, e2⟩ := Prod.mk.inj e
  have hdx : s.heap.get? dx = some (dictOf es n) := by
    have := I.dict
    rw [hd] at this
    exact this
  refine set_plain X I hs (osa_dict (s := { s with toks := s.toks + 1 }) (h₀ := noObjs s.heap) (L := L) (m := m) (od := dictOf es n) (od' := dictOf es' n') (es := es') (n := n') (pre := []) (post := ledger s.heap L dx)
    (fr_all hL) (news_ledger hne hdx) X I hd hp ht hh hl (fun _ q => nomatch q) (fun ⟨_, _⟩ q => (mem_ledger.mp q).2.1) (by rw [putName_dict, e1, e2]) rfl hz fun h' F' N' => ?_)
  exact h h' F'.ns (N'.get (List.Mem.head _)) fun b o n1 n2 ho => N'.get (List.Mem.tail _ (mem_ledger.mpr ⟨n2, n1, ho⟩))
end
end Att

namespace L2
open PySem PySem.Spec PyProof.Rows

theorem vals_ints : ∀ {vs : List Value} {ns : List Int}, IntsAre vs ns → Vals (ns.map V.int) vs
  | _, _, .nil => .nil
  | _, _, .cons n t h => .cons ⟨t, rfl⟩ (vals_ints h)

/-- nothing is tracked but the script, known to the object (or it is an object of the module) -/
def Only (H : Hp) : Prop := ∀ b, H b = none ∨ ∃ o xs, H b = some (.frz o (.lst xs))

/-- THE HEAD: the law's promise, at the heap behind the top. F, the promise of the law's def, may use that base is part of the heap (so K.In base, base.Ns mainGlobals mg stand in Mod) -/
theorem law_call {P : Program} {w : World} {K : PySem.W.Frag} {mg mb : Str → Option Value} {CX : CXT} {k : Nat} {fa a : Addr} {fd : FuncData} {x : Str} {sp : Sp} {s₁ : Shared} {vs : List Value} {ns : List Int}
    (KX : K.In s₁.heap) (hns : s₁.heap.Ns mainGlobals mg) (hb : s₁.heap.Ns builtinsNs mb) (hbb : ∀ x : Str, x ≠ "__name__" → mb x = bootBuiltins x) (hlim : s₁.heap.NoLimit) (hg : s₁.gens = #[])
    (ha : s₁.heap.get? a = some { cls := .type "list", data := .seq vs.toArray }) (hi : IntsAre vs ns) (hl : ns.length ≤ sizeLine) (hr : Room k callerA)
    (F : ∀ base : Heap, K.In base → base.Ns mainGlobals mg → FnOk P w K mg base CX k fa fd [x] sp) (hbind : ∀ (s : Shared) (u : Value), BindsTo s fd ⟨[u], []⟩ [(x, u)])
    (hsp : ∀ H : Hp, Only H → SqL K H a (ns.map V.int) → sp [.ref a] H (fun v _ => v = .bl true) fun _ _ _ => False)
    (hCX : ∀ H e s', CX [] H s₁ (fun _ _ _ => False) e s' → False) :
    codeAny (model P w) callerA (.call (.ref fa) ⟨[.ref a], []⟩) (fun r s' => r = .ok (.ret (.bool true)) ∧ OldK s₁.heap s'.heap ∧ s'.os = s₁.os ∧ AllBare s'.gens) s₁ := by
  have rv := vals_ints hi
  have lenV := hi.length
  -- from an abstract heap in which nothing but the script may be tracked
  have core : ∀ H : Hp, Only H → SqL K H a (ns.map V.int) → HOk P w H s₁.heap → (∀ b, H b ≠ none → b = a) → (H a ≠ none → K.lookup a = none) →
      codeAny (model P w) callerA (.call (.ref fa) ⟨[.ref a], []⟩) (fun r s' => r = .ok (.ret (.bool true)) ∧ OldK s₁.heap s'.heap ∧ s'.os = s₁.os ∧ AllBare s'.gens) s₁ := by
    intro H hO hS hok hA hK
    have base_of : ∀ {b : Addr} {o : Obj}, s₁.heap.get? b = some o → H b = none → (hidT s₁.heap H).get? b = some o := fun e n => hidT_get e n
    have noA : ∀ {b : Addr} {o : Obj} {es : Array DictEntry} {ep : Nat}, s₁.heap.get? b = some o → o.data = .dict es ep → H b = none := fun {b o es ep} e d => by
      cases q : H b with
      | none => rfl
      | some u =>
        have e' : b = a := hA b (by rw [q]; simp)
        subst e'
        rw [ha] at e; cases e
        have d' : Data.seq vs.toArray _ = Data.dict es ep := d
        cases d'
    have nsK : ∀ {b : Addr} {m : Str → Option Value}, s₁.heap.Ns b m → (hidT s₁.heap H).Ns b m := fun {b m} ⟨o, es, ep, e, d, r⟩ => ⟨o, es, ep, base_of e (noA e d), d, r⟩
    have hKb : K.In (hidT s₁.heap H) := fun b o e => base_of (KX b o e) (by
      cases q : H b with
      | none => rfl
      | some u =>
        have e' : b = a := hA b (by rw [q]; simp)
        subst e'
        rw [hK (by rw [q]; simp)] at e; cases e)
    have hM : Mod K mg (hidT s₁.heap H) := ⟨hKb, nsK hns, ⟨mb, nsK hb, hbb⟩, let ⟨mc, h1, h2⟩ := hlim; ⟨mc, nsK h1, h2⟩⟩
    have e0 : Env0 P w K mg (hidT s₁.heap H) callerA [] s₁ H := ⟨rfl, hM, fun b o e => of_hidT e, Nat.le_of_eq (hidT_size _ _), trivial, fun b hb => absurd (show b ∈ ([] : List Addr) from hb) (by simp), hok, .of_eq hg⟩
    refine codeAny_mono ((F _ hKb (nsK hns)).run callerA [] s₁ H ⟨[.ref a], []⟩ [.ref a] [.ref a] _ _ hr e0 (hbind s₁ (.ref a)) (.cons rfl .nil) (hsp H hO hS)) fun r s' h => ?_
    cases r with
    | error e => exact (hCX H e s' h).elim
    | ok fl =>
      cases fl with
      | next => exact False.elim h
      | brk => exact False.elim h
      | cont => exact False.elim h
      | ret u =>
        obtain ⟨v, H', os, bare, un, hok', r', q⟩ := h
        have q' : v = .bl true := q
        subst q'
        obtain rfl : u = Value.bool true := r'
        refine ⟨rfl, OldK.of_keep fun b o e => ?_, os, bare⟩
        cases q : H b with
        | none => exact un.keep b o e q (by intro z; exact absurd (show b ∈ ([] : List Addr) from z) (by simp)) (by simp)
        | some u =>
          rcases hO b with z | ⟨ob, xs, z⟩
          · rw [q] at z; cases z
          · have z2 := un.frzs b ob _ z
            obtain ⟨e1, _⟩ := hok b _ z
            obtain ⟨e2, _⟩ := hok' b _ z2
            rw [e] at e1; cases e1
            exact e2
  cases hk : K.lookup a with
  | some o =>
    -- the script is one of the module's own objects
    have e := KX a o hk
    rw [ha] at e
    cases e
    refine core (fun _ => none) (fun _ => .inl rfl) (.inr ⟨_, vs.toArray, _, hk, rfl, rfl, rfl, by rw [List.size_toArray, lenV]; exact hl, by simpa using rv⟩) (fun b u z => by have z' : (none : Option HO) = some u := z; cases z') (fun b z => absurd rfl z) fun z => absurd rfl z
  | none =>
    refine core (fun b => if b = a then some (.frz { cls := .type "list", data := .seq vs.toArray } (.lst (ns.map V.int))) else none) (fun b => ?_) (.inl (.inr ⟨{ cls := .type "list", data := .seq vs.toArray }, if_pos rfl⟩)) (fun b u z => ?_) (fun b z => ?_) fun _ => hk
    · by_cases hb : b = a
      · exact .inr ⟨_, _, if_pos hb⟩
      · exact .inl (if_neg hb)
    · by_cases hb : b = a
      · have z' := (if_pos hb).symm.trans z
        cases z'
        subst hb
        exact ⟨ha, by rw [List.length_map]; exact hl, vs, _, rv, ha⟩
      · have z' := (if_neg hb).symm.trans z
        cases z'
    · by_cases hb : b = a
      · exact hb
      · exact absurd (if_neg hb) z
end L2

namespace L2
open PySem PySem.Spec PyProof.Rows

abbrev KOf {K : PySem.W.Frag} {h : Heap} (_ : K.In h) : PySem.W.Frag := K

/-- the goal that k_head leaves (case hc), from the law's promise. F gives the function object fd (K's own) once, then the promise over every base -/
theorem walk_of {l : PySem.W.OpenLaw} {n k : Nat} {q : Program} {loose : List Str} {XP : (Str → Option Value) → Heap → Prop} {YP : World → Heap → Prop} {d : DefRec} {K : Params → PySem.W.Frag} {CX : World → CXT} {sp : World → Sp} {x : Str}
    (hn : l.most = some n) (hn2 : n ≤ sizeLine) (hdf : d.params.defaults = []) (hr : Room k callerA)
    (hY : ∀ (w : World) (h : Heap), YP w h → (K w.params).In h)
    (F : ∀ (w : World) (mg : Str → Option Value) (fa : Addr) (h : Heap), (K w.params).In h → h.Ns mainGlobals mg → mg d.name = some (.ref fa) →
      ∃ fd : FuncData, (∀ (s : Shared) (u : Value), BindsTo s fd ⟨[u], []⟩ [(x, u)]) ∧
        ∀ base : Heap, (K w.params).In base → base.Ns mainGlobals mg → FnOk l.prog w (K w.params) mg base (CX w) k fa fd [x] (sp w))
    (hsp : ∀ (w : World) (H : Hp) (a : Addr) (ns : List Int), ns.length ≤ n → Only H → SqL (K w.params) H a (ns.map V.int) → sp w [.ref a] H (fun v _ => v = .bl true) fun _ _ _ => False)
    (hCX : ∀ (w : World) (H : Hp) (s : Shared) (e : Value) (s' : Shared), CX w [] H s (fun _ _ _ => False) e s' → False) :
    PySem.W.WalkO q loose XP YP l.row.toRowW d [] (fun f vs => PySem.call f vs) := by
  refine Att.attach_call hn hdf fun w s₀ s₁ mg mb fa o pm cd doc a vs ns G Y ho hd hcd hmg hobj hints hlen hg => ?_
  have KX := hY w _ Y
  obtain ⟨fd, hb, hF⟩ := F w mg fa _ KX G.T.g hmg
  exact law_call KX G.T.g G.T.b G.T.builtins G.T.nolimit hg hobj hints (Nat.le_trans hlen hn2) hr hF hb (fun H hO hS => hsp w H a ns hlen hO hS) fun H e s' => hCX w H s₁ e s'
/-- the same where the promise hangs on the written part alone: (sp := My.sp_law), no hole under a binder -/
theorem walk_ofK {l : PySem.W.OpenLaw} {n k : Nat} {q : Program} {loose : List Str} {XP : (Str → Option Value) → Heap → Prop} {YP : World → Heap → Prop} {d : DefRec} {K : Params → PySem.W.Frag} {CX : CXT} {sp : PySem.W.Frag → Sp} {x : Str}
    (hn : l.most = some n) (hn2 : n ≤ sizeLine) (hdf : d.params.defaults = []) (hr : Room k callerA)
    (hY : ∀ (w : World) (h : Heap), YP w h → (K w.params).In h)
    (F : ∀ (w : World) (mg : Str → Option Value) (fa : Addr) (h : Heap), (K w.params).In h → h.Ns mainGlobals mg → mg d.name = some (.ref fa) →
      ∃ fd : FuncData, (∀ (s : Shared) (u : Value), BindsTo s fd ⟨[u], []⟩ [(x, u)]) ∧
        ∀ base : Heap, (K w.params).In base → base.Ns mainGlobals mg → FnOk l.prog w (K w.params) mg base CX k fa fd [x] (sp (K w.params)))
    (hsp : ∀ (K : PySem.W.Frag) (H : Hp) (a : Addr) (ns : List Int), ns.length ≤ n → Only H → SqL K H a (ns.map V.int) → sp K [.ref a] H (fun v _ => v = .bl true) fun _ _ _ => False)
    (hCX : ∀ (H : Hp) (s : Shared) (e : Value) (s' : Shared), CX [] H s (fun _ _ _ => False) e s' → False) :
    PySem.W.WalkO q loose XP YP l.row.toRowW d [] (fun f vs => PySem.call f vs) :=
  walk_of (K := K) (CX := fun _ => CX) (sp := fun w => sp (K w.params)) hn hn2 hdf hr hY F (fun w H a ns h1 h2 h3 => hsp (K w.params) H a ns h1 h2 h3) fun _ H s e s' => hCX H s e s'
end L2

/- THE LAST THEOREM (shape; LID, My.* are yours):
   My.Adr: a structure of the addresses that your layer names (classes, functions); My.Txt K t: a structure (Prop) of the equations over K;
   My.txt_mk : {K} {implicit addresses ..} (e1 : nsIn K mainGlobals "law" = some (some (.ref f))) (e2 : K.lookup f = some ⟨oc, od, .func (fnOf "law" "law" params body scope dV kV doc pm an cdv ct), sl⟩) (e3 : codeIn K cdv "law" = true) .. : ∃ t, My.Txt K t

set_option maxRecDepth 100000 in
set_option maxHeartbeats 0 in
theorem PySem.Challenge.cw_LID_holds : PySem.Challenge.rw_LID.Holds := by
  w_on; o_law; k_head; (case hw => w_witness2)
  k_fill
  refine L2.walk_of (l := PySem.Challenge.rw_LID) (n := 63) (k := 40) (x := "script") (CX := fun w => ..) (sp := fun _ => My.sp_law) rfl (by decide) rfl ⟨rfl, by decide, by decide⟩ (fun w h Y => PySem.W.kIn_of Y) ?F ?S ?C
  case F =>
    intro w mg fa h KX G hmg
    have T : ∃ t, My.Txt (L2.KOf KX) t := by
      dsimp only [L2.KOf]                          -- K must stand as «<heap const> w.params» for k_is
      refine' My.txt_mk ?e1 ?e2 ?e3 ..
      (case e1 => PySem.W.k_is)                    -- in the order: a name -> its address -> its object -> its parts
      (case e2 => PySem.W.k_is)
      ..
    obtain ⟨t, T⟩ := T
    have e0 := hmg.symm.trans (PySem.W.mg_of KX G T.law)
    cases e0                                       -- fa is the law's own address
    exact ⟨_, fun s u => .of_eq rfl, fun base kb nb => My.law_fn T kb nb⟩     -- if «.of_eq rfl» comes too early: refine' ⟨_, ?b, fun base kb nb => My.law_fn T kb nb⟩; exact fun s u => .of_eq rfl
  case S => exact fun w H a ns hl hO hS => ..
  case C => exact ..
(the tactic k_is has no namespace: write k_is) -/

/-! SHORT WORDS over the layer: a def of the text, its body, what a loop and a test want. -/
namespace L2
open PySem PySem.Spec PyProof.Rows

/-! ### the text by places -/
/-- the j-th statement of a class's body -/
def inClass (s : Stmt) (j : Nat) : Stmt := match s with
  | .ClassDef _ _ _ body _ _ _ _ _ _ _ => body.getD j (.Pass ⟨0, 0, 0, 0⟩)
  | _ => .Pass ⟨0, 0, 0, 0⟩
def defArgs (s : Stmt) : Arguments := match s with
  | .FunctionDef _ a _ _ _ _ _ _ _ _ => a
  | _ => { posonlyargs := [], args := [], vararg := none, kwonlyargs := [], kw_defaults := [], kwarg := none, defaults := [] }
def defBody (s : Stmt) : List Stmt := match s with
  | .FunctionDef _ _ b _ _ _ _ _ _ _ => b
  | _ => []
def defScope (s : Stmt) : Scope := match s with
  | .FunctionDef _ _ _ _ _ _ sc _ _ _ => sc
  | _ => { kind := .function, names := [], isGenerator := false, isCoroutine := false }

/-! ### no exception leaves a def -/
abbrev CX0 : CXT := fun _ _ _ _ _ _ => False
abbrev E0 : XK := fun _ _ _ => False
theorem pass0 {X : Cx} : Passes CX0 X E0 := fun _ _ _ _ _ _ _ h => h.elim

/-! ### a def (or method) of the text as it stands behind the top -/
structure Fun (K : PySem.W.Frag) (x qual : Str) (st : Stmt) (f : Addr) (fd : FuncData) : Prop where
  ex : ∃ (oc : Value) (od : Option Addr) (kV doc pm : Value) (an : Option Addr) (cdv ct : Value) (osl : Array (Option Value)),
    fd = PySem.W.fnOf x qual (defArgs st) (defBody st) (defScope st) .none kV doc pm an cdv ct ∧ K.lookup f = some ⟨oc, od, .func fd, osl⟩ ∧ PySem.W.codeIn K cdv qual = true
  kp : PySem.W.keepIn K (.ref f) = true
section
variable {P : Program} {w : World} {K : PySem.W.Frag} {mg : Str → Option Value} {base : Heap}
/-- THE RULE for a def: its body as a term of rules, and the reading of that term -/
theorem Fun.ok {x qual : Str} {st : Stmt} {f : Addr} {fd : FuncData} {N ps : List Str} {k : Nat} {sp : Sp} (F : Fun K x qual st f fd) (S : FnScope N ps (defScope st)) (len : ∀ vs H Q E, sp vs H Q E → vs.length = ps.length)
    (hbody : ∀ (cdv : Value) (A : Around) (outer : List Env) (s : Shared) (H : Hp) (vs : List V) (Q : VK) (E : XK), Room k (A.deeper (envOfC qual (defScope st) s.heap.objs.size f cdv)) → sp vs H Q E →
      ∃ t, PSs (cxOf CX0 P w K mg base N qual (defScope st) f cdv A outer s H E).nox (defBody st) t ∧ t { nx := fun _ H' => Q .non H', rt := Q } (start N vs) H) : FnOk P w K mg base CX0 (k + 1) f fd ps sp := by
  obtain ⟨oc, od, kV, doc, pm, an, cdv, ct, osl, rfl, lk, hcd⟩ := F.ex
  refine fn_of lk hcd S len fun A outer s H vs Q E hr hsp => ?_
  obtain ⟨t, h, q⟩ := hbody cdv A outer s H vs Q E hr hsp
  exact ⟨t, h.nox, q⟩
/-- how its arguments bind (no defaults): h is «fun _ _ _ _ _ _ us hl => match us, hl with | [_, _], _ => rfl», one _ a parameter -/
theorem Fun.binds {x qual : Str} {st : Stmt} {f : Addr} {fd : FuncData} {ps : List Str} (F : Fun K x qual st f fd)
    (h : ∀ (kV doc pm : Value) (an : Option Addr) (cdv ct : Value) (us : List Value), us.length = ps.length → bindArgs (PySem.W.fnOf x qual (defArgs st) (defBody st) (defScope st) .none kV doc pm an cdv ct) ⟨us, []⟩ = pure (ps.zip us)) : Binds K fd ps [] := by
  obtain ⟨oc, od, kV, doc, pm, an, cdv, ct, osl, rfl, lk, hcd⟩ := F.ex
  exact .all (h kV doc pm an cdv ct)
theorem fun_mk {x qual : Str} {st : Stmt} {f : Addr} {oc : Value} {od an : Option Addr} {osl : Array (Option Value)} {kV doc pm cdv ct : Value} (l : K.lookup f = some ⟨oc, od, .func (PySem.W.fnOf x qual (defArgs st) (defBody st) (defScope st) .none kV doc pm an cdv ct), osl⟩)
    (c : PySem.W.codeIn K cdv qual = true) (k : PySem.W.keepIn K (.ref f) = true) : Fun K x qual st f (PySem.W.fnOf x qual (defArgs st) (defBody st) (defScope st) .none kV doc pm an cdv ct) := ⟨⟨oc, od, kV, doc, pm, an, cdv, ct, osl, rfl, l, c⟩, k⟩
end
theorem hu_of {A : Around} {k : Nat} (hr : Room k A) : A.units + 1 < cLine := Nat.lt_of_le_of_lt (Nat.add_le_add_left (by decide : 1 ≤ 64) _) hr.units
theorem small1000 {n : Nat} (h : n ≤ 1000) : n < sizeLine := Nat.lt_of_le_of_lt h (by decide)

/-! ### expressions in short: the name that stands in the i-th slot -/
section
variable {X : Cx}
theorem pv (i : Nat) {x : Str} {pos : Pos} (hN : X.N[i]? = some x := by rfl) (hv : Vis X.env.scope x := by first | exact Or.inl rfl | exact Or.inr (Or.inl rfl) | exact Or.inr (Or.inr rfl)) (hd : (x == ("__debug__" : Str)) = false := by decide)
    (hcd : (x == ("__classdict__" : Str)) = false := by decide) : PE X (.Name x pos) (tVar i) := pe_var hN hv hd hcd
end

/-! ### tests -/
theorem iteF {A B : Prop} (h : B) : if false = true then A else B := by
  rw [if_neg Bool.false_ne_true]
  exact h
theorem iteT {A B : Prop} (h : A) : if true = true then A else B := by
  rw [if_pos rfl]
  exact h
theorem ite2 {c A B : Prop} [Decidable c] (h1 : c → A) (h2 : ¬ c → B) : if c then A else B := by
  by_cases h : c
  · rw [if_pos h]
    exact h1 h
  · rw [if_neg h]
    exact h2 h
theorem iteNS {c A B : Prop} [Decidable c] (hc : c) (h : B) : if (!decide c) = true then A else B := by
  rw [decide_eq_true hc]
  exact iteF h

/-! ### heaps -/
/-- all that was tracked is as it was -/
def Same (H H' : Hp) : Prop := ∀ b o, H b = some o → H' b = some o
theorem Same.refl (H : Hp) : Same H H := fun _ _ h => h
theorem Same.trans {H H1 H2 : Hp} (a : Same H H1) (b : Same H1 H2) : Same H H2 := fun c o h => b c o (a c o h)
theorem Same.free {H H' : Hp} (e : Same H H') {l : Addr} (h : H' l = Option.none) : H l = Option.none := by
  cases q : H l with
  | none => rfl
  | some o =>
    rw [e l o q] at h
    cases h
theorem Same.seq {K : PySem.W.Frag} {H H' : Hp} {a : Addr} {xs : List V} (e : Same H H') (h : SqL K H a xs) : SqL K H' a xs := by
  rcases h with (h | ⟨o, h⟩) | h
  · exact .inl (.inl (e _ _ h))
  · exact .inl (.inr ⟨o, e _ _ h⟩)
  · exact .inr h

end L2

set_option maxHeartbeats 4000000
namespace L2
open PySem PySem.Spec PyProof.Rows
section
variable {P : Program} {w : World}
theorem ObjOk.here {H : Hp} {h : Heap} {a : Addr} {o : HO} (x : ObjOk P w H h a o) : ∃ ob, h.get? a = some ob := by
  cases o with
  | lst xs => obtain ⟨_, _, _, _, e⟩ := x; exact ⟨_, e⟩
  | tup xs => obtain ⟨_, _, _, ob, e, _⟩ := x; exact ⟨ob, e⟩
  | dK kvs => obtain ⟨_, _, _, _, ob, _, _, e, _⟩ := x; exact ⟨ob, e⟩
  | dT kvs => obtain ⟨_, _, _, _, ob, _, _, e, _⟩ := x; exact ⟨ob, e⟩
  | set S n => obtain ⟨ob, _, _, _, e, _⟩ := x; exact ⟨ob, e⟩
  | ins C dx fs => obtain ⟨_, _, _, e, _⟩ := x; exact ⟨_, e⟩
  | own y => exact x
  | xd fs => obtain ⟨_, ⟨ob, _, _, e, _⟩, _⟩ := x; exact ⟨ob, e⟩
  | rng lo hi => obtain ⟨_, _, _, e⟩ := x; exact ⟨_, e⟩
  | frz ob u => obtain ⟨e, _⟩ := x; exact ⟨_, e⟩
  | tbl ps => exact ⟨_, show h.get? a = some _ from x⟩
  | met f y => exact ⟨_, show h.get? a = some _ from x⟩
  | ext φ => obtain ⟨_, z, _⟩ := x; exact z

/-- an exception stands at x: the object o but for its record, in flight from fl; B: what no station of the flight touches; l: the frames that it may write slots of -/
def FlA (B : Heap) (l : List Env) (x : Addr) (o : Obj) (fl : Value) (h : Heap) : Prop :=
  B.StaysIn h ∧ B.get? x = none ∧ h.FunFrames B l ∧ ∃ (vs : Array Value) (T : Addr) (oT : Obj) (ts : Array Value), h.get? x = some { o with data := .fields vs } ∧ vs[2]? = some .none ∧ vs[1]? = some (.ref T) ∧
    B.get? T = none ∧ T ≠ x ∧ h.get? T = some oT ∧ oT.data = .fields ts ∧ ts[3]? = some fl
section
variable {M : Model} {A : Around} {E : Value → Shared → Prop} {s : Shared} {B : Heap} {env : Env} {outer l : List Env} {L x : Addr} {o : Obj} {vs : Array Value} {Q : Unit → Shared → Prop}
theorem upTo_other {h h' : Heap} {T : Addr} {oT : Obj} {ts : Array Value} (hT : h.get? T = some oT) (hd : oT.data = .fields ts) (k : ∀ b, b ≠ T → h'.get? b = h.get? b) : h.UpToSlots h' := fun b ob e hn =>
  ⟨ob.slots, (k b fun z => by rw [z, hT] at e; cases e; exact hn _ hd).trans e⟩
theorem frames_up {h h' : Heap} (hl : h.FunFrames B l) (u : h.UpToSlots h') : h'.FunFrames B l := hl.of_keeps fun b ob e hn => by
  obtain ⟨sl, q⟩ := u b ob e hn
  exact ⟨_, q, rfl⟩
/-- a new record of the traceback for this frame -/
theorem fl_entry {head : Value} {had : Bool} (hfr : A.frames = some (env :: outer)) (hf : env.frame = some L) (hB : B.StaysIn s.heap) (hn : B.get? x = none) (hl : s.heap.FunFrames B (env :: outer)) (hx : s.heap.get? x = some { o with data := .fields vs }) (h1 : 1 < vs.size) (h2 : vs[2]? = some .none)
    (h : ∀ h', FlA B (env :: outer) x o (rawInt L) h' → s.heap.UpToSlots h' → Q () { s with heap := h' }) :
    wpAny M A (do let a ← frameOf env; let pl ← entryPlaceOf L had; let n ← EntryCells.newEntry head a .none (rawInt L) .none pl; setField (.ref x) 1 n) Q E s := by
  refine wpAny_bind (wpAny_frameOf_fun hfr hl hf fun g1 S1 => wpAny_bind (wpAny_entryPlaceOf fun pl hpl => ?_))
  have nx : x ∉ (env :: outer).filterMap (·.frame) := fun z => by
    obtain ⟨_, ob, e, d⟩ := hl.mem z
    rw [hx] at e; cases e
    exact d _ rfl
  have hx1 : g1.get? x = some { o with data := .fields vs } := (S1.2.1 x nx).trans hx
  unfold EntryCells.newEntry newFields
  refine wpAny_bind (wpAny_newObj_type ?_ (hpl.sizeOk5 _ _ _ _ _))
  have hx2 := Heap.get?_push_of_some (h := g1) { cls := .type "traceback", dict := none, data := .fields ([head, .ref L, .none, rawInt L, .none] ++ (if pl.isEmpty then List.replicate 6 Value.none else pl)).toArray } hx1
  refine wpAny_setField hx2 rfl h1 (h _ ?_ ?_)
  · have up1 : ∀ b ob, b ≠ x → g1.get? b = some ob → ((g1.push { cls := .type "traceback", dict := none, data := .fields ([head, .ref L, .none, rawInt L, .none] ++ (if pl.isEmpty then List.replicate 6 Value.none else pl)).toArray }).update x (Obj.mapFields (·.setIfInBounds 1 (Value.ref g1.objs.size)))).get? b = some ob := fun b ob nb e =>
      (Heap.get?_update_other _ _ (Ne.symm nb)).trans (Heap.get?_push_of_some _ e)
    have neT : g1.objs.size ≠ x := Nat.ne_of_gt (Heap.lt_size hx1)
    refine ⟨fun b ob e => up1 b ob (fun z => by rw [z, hn] at e; cases e) ((S1.2.1 b fun z => by rw [(hl.mem z).1] at e; cases e).trans (hB b ob e)), hn, hl.of_keeps fun b ob e d => ?_, vs.setIfInBounds 1 (.ref g1.objs.size), g1.objs.size, _, _, Heap.get?_update_self _ hx2 rfl, by rw [Array.getElem?_setIfInBounds_ne (by decide)]; exact h2, by simp [h1], ?_, neT,
      (Heap.get?_update_other _ _ (Ne.symm neT)).trans (Heap.get?_push_size g1 rfl), rfl, ?_⟩
    · obtain ⟨sl, q⟩ := S1.2.2 b ob e
      exact ⟨_, up1 b _ (fun z => by rw [z, hx] at e; cases e; exact d _ rfl) q, rfl⟩
    · cases q : B.get? g1.objs.size with
      | none => rfl
      | some ob =>
        have := Heap.lt_size (hB _ _ q)
        rw [← S1.1] at this
        exact absurd this (Nat.lt_irrefl _)
    · first
        | (simp; done)
        | (rcases hpl with rfl | ⟨_, _, _, _, _, _, _, rfl⟩ <;> simp)
  · intro b ob e d
    obtain ⟨sl, q⟩ := S1.2.2 b ob e
    refine ⟨sl, ?_⟩
    rw [Heap.get?_update_other _ _ (fun z : x = b => by rw [← z, hx] at e; cases e; exact d _ rfl)]
    exact Heap.get?_push_of_some _ q
theorem fl_first (hfr : A.frames = some (env :: outer)) (hf : env.frame = some L) (hB : B.StaysIn s.heap) (hn : B.get? x = none) (hl : s.heap.FunFrames B (env :: outer)) (hx : s.heap.get? x = some { o with data := .fields vs }) (h1 : vs[1]? = some .none) (h2 : vs[2]? = some .none)
    (h : ∀ h', FlA B (env :: outer) x o (rawInt L) h' → s.heap.UpToSlots h' → Q () { s with heap := h' }) : wpAny M A (noteFrame (.ref x) env) Q E s := by
  unfold noteFrame
  simp only [hf]
  refine wpAny_bind (wpAny_field hx rfl h1 ?_)
  rw [if_neg (by decide)]
  exact fl_entry hfr hf hB hn hl hx (Array.getElem?_eq_some_iff.mp h1).1 h2 h
theorem fl_on (hfr : A.frames = some (env :: outer)) (hf : env.frame = some L) (R : FlA B (env :: outer) x o .none s.heap)
    (h : ∀ h', FlA B (env :: outer) x o (rawInt L) h' → s.heap.UpToSlots h' → Q () { s with heap := h' }) : wpAny M A (noteFrame (.ref x) env) Q E s := by
  obtain ⟨hB, hn, hl, vs, T, oT, ts, hx, h2, h1, nT, nTx, hT, dT, h3⟩ := R
  unfold noteFrame
  simp only [hf]
  refine wpAny_bind (wpAny_field hx rfl h1 ?_)
  rw [if_pos (show (Value.ref T != Value.none) = true by simp)]
  refine wpAny_bind (wpAny_field hT dT h3 ?_)
  rw [if_neg (show ¬ ((Value.none == rawInt L) = true) by simp [rawInt])]
  refine wpAny_bind (wpAny_setField hT dT (Array.getElem?_eq_some_iff.mp h3).1 ?_)
  have oth : ∀ b, b ≠ T → (s.heap.update T (Obj.mapFields (·.setIfInBounds 3 Value.none))).get? b = s.heap.get? b := fun b nb => Heap.get?_update_other _ _ (Ne.symm nb)
  have u := upTo_other hT dT oth
  exact fl_entry hfr hf (fun b ob e => (oth b fun z => by rw [z, nT] at e; cases e).trans (hB b ob e)) hn (frames_up hl u) ((oth x (Ne.symm nTx)).trans hx) (Array.getElem?_eq_some_iff.mp h1).1 h2 fun h' F' u' => h h' F' (u.trans u')
theorem fl_land {fl : Value} (R : FlA B l x o fl s.heap) (h : ∀ h', FlA B l x o .none h' → s.heap.UpToSlots h' → Q () { s with heap := h' }) : wpAny M A (setFlight (.ref x) none) Q E s := by
  obtain ⟨hB, hn, hl, vs, T, oT, ts, hx, h2, h1, nT, nTx, hT, dT, h3⟩ := R
  unfold setFlight
  refine wpAny_bind (wpAny_field hx rfl h1 ?_)
  rw [if_pos (show (Value.ref T != Value.none) = true by simp)]
  have z3 := (Array.getElem?_eq_some_iff.mp h3).1
  have oth : ∀ b, b ≠ T → (s.heap.update T (Obj.mapFields (·.setIfInBounds 3 ((none : Option Addr).elim Value.none fun f => rawInt f)))).get? b = s.heap.get? b := fun b nb => Heap.get?_update_other _ _ (Ne.symm nb)
  have u := upTo_other hT dT oth
  refine wpAny_setField hT dT z3 (h _ ⟨fun b ob e => (oth b fun z => by rw [z, nT] at e; cases e).trans (hB b ob e), hn, frames_up hl u, vs, T, _, _, (oth x (Ne.symm nTx)).trans hx, h2, h1, nT, nTx, Heap.get?_update_self _ hT (Obj.isFreed_of_fields (Obj.data_mapFields dT _)), Obj.data_mapFields dT _, by simp [z3]⟩ u)
theorem fl_pop {fl : Value} {h : Heap} (R : FlA B (env :: outer) x o fl h) : FlA B outer x o fl h := by
  obtain ⟨hB, hn, ⟨_, _, hl⟩, r⟩ := R
  exact ⟨hB, hn, hl, r⟩
end

/-- an exception flies over the frames l: ahead stood (h, H), now (h', H') -/
structure Fly (P : Program) (w : World) (l : List Env) (H H' : Hp) (h h' B : Heap) (x : Addr) (o : Obj) : Prop where
  un : Un (frs l) [] H H' h h'
  ok : HOk P w H' B
  fly : FlA B l x o .none h'
  inB : ∀ b u, h.get? b = some u → H b = none → b ∉ frs l → B.get? b = some u
  thB : ∀ b u, h.get? b = some u → b ∉ frs l → ∃ u', B.get? b = some u'
variable {l : List Env} {H H' : Hp} {h h' h'' B : Heap} {x : Addr} {o : Obj}
theorem Fly.hok (F : Fly P w l H H' h h' B x o) : HOk P w H' h' := F.ok.kept F.fly.1
theorem Fly.nx (F : Fly P w l H H' h h' B x o) : H' x = none := by
  cases e : H' x with
  | none => rfl
  | some u =>
    obtain ⟨ob, q⟩ := ObjOk.here (F.ok x u e)
    rw [F.fly.2.1] at q
    cases q
theorem Fly.on (F : Fly P w l H H' h h' B x o) (f : FlA B l x o .none h'') (u : h'.UpToSlots h'') : Fly P w l H H' h h'' B x o where
  un := ⟨fun b o e n hb _ => f.1 b o (F.inB b o e n hb),
    fun b o e n hb hx => by
      obtain ⟨sl, e1⟩ := F.un.slot b o e n hb hx
      obtain ⟨_, o', ho', hd⟩ := F.fly.2.2.1.mem hb
      rw [e1] at ho'; cases ho'
      obtain ⟨sl2, e2⟩ := u b _ e1 hd
      exact ⟨sl2, e2⟩,
    F.un.free,
    fun b o e _ => by
      by_cases hb : b ∈ frs l
      · obtain ⟨_, o', ho', hd⟩ := F.fly.2.2.1.mem hb
        obtain ⟨sl, e2⟩ := u b _ ho' hd
        exact ⟨_, e2⟩
      · obtain ⟨o', q⟩ := F.thB b o e hb
        exact ⟨o', f.1 _ _ q⟩,
    F.un.tups, F.un.frzs, F.un.tbls⟩
  ok := F.ok
  fly := f
  inB := F.inB
  thB := F.thB
end

/-- how an exception lies behind a call -/
def CX1 (P : Program) (w : World) : CXT := fun outer H s E e s' =>
  ∃ x o H' B, e = .ref x ∧ s'.os = s.os ∧ AllBare s'.gens ∧ Fly P w outer H H' s.heap s'.heap B x o ∧ E o.cls o.dict H'

section
variable {X : Cx} {pins : List (Addr × Obj)} {σ : St} {H H' : Hp} {s : Shared} {h'' B : Heap} {x : Addr} {ox : Obj}
/-- the frame at the top is left -/
theorem Fly.leave (I : Inv X pins σ H s) (hex : X.ex = []) (hst : ∀ b ∈ frs X.outer, b ∈ frs X.stack) (ok : HOk X.prog X.w H' B) (f : FlA B X.outer x ox .none h'') (nx0 : X.s₀.heap.get? x = none)
    (inB : ∀ b o, b ≠ x → s.heap.get? b = some o → H b = none → b ∉ frs X.stack → B.get? b = some o)
    (thB : ∀ b o, b ≠ x → s.heap.get? b = some o → b ∉ frs X.stack → ∃ o', B.get? b = some o')
    (sl : ∀ b o, s.heap.get? b = some o → b ∈ frs X.stack → ∃ sl, h''.get? b = some { o with slots := sl })
    (free : ∀ b o, s.heap.get? b = some o → H b = none → H' b = none)
    (tups : ∀ b xs, H b = some (.tup xs) → H' b = some (.tup xs)) (frzs : ∀ b o u, H b = some (.frz o u) → H' b = some (.frz o u))
    (tbls : ∀ b ps, H b = some (.tbl ps) → ∃ more, H' b = some (.tbl (ps ++ more))) : Fly X.prog X.w X.outer X.H₀ H' X.s₀.heap h'' B x ox := by
  have nX : ∀ b o, X.s₀.heap.get? b = some o → b ≠ x := fun b o e z => by rw [z, nx0] at e; cases e
  have noX : ∀ b : Addr, b ∉ X.ex := fun b z => by rw [hex] at z; cases z
  have nS : ∀ b o, X.s₀.heap.get? b = some o → b ∉ frs X.outer → b ∉ frs X.stack := fun b o e hb z =>
    (List.mem_cons.mp (I.stkSub b z)).elim (fun q => Nat.ne_of_lt (Nat.lt_of_lt_of_le (Heap.lt_size e) I.ok.above) q) hb
  refine ⟨⟨fun b o e n hb _ => ?_, fun b o e n hb _ => ?_, fun b o e n _ => ?_, fun b o e _ => ?_, fun b xs e => tups b xs (I.base.tups b xs e), fun b o u e => frzs b o u (I.base.frzs b o u e), fun b ps e => ?_⟩, ok, f, fun b o e n hb => ?_, fun b o e hb => ?_⟩
  · exact f.1 b o (inB b o (nX b o e) (I.base.keep b o e n hb (noX b)) (I.base.free b o e n (noX b)) (nS b o e hb))
  · obtain ⟨s1, e1⟩ := I.base.slot b o e n hb (noX b)
    obtain ⟨s2, e2⟩ := sl b _ e1 (hst b hb)
    exact ⟨s2, e2⟩
  · obtain ⟨o', e1⟩ := I.base.there b o e (noX b)
    exact free b o' e1 (I.base.free b o e n (noX b))
  · obtain ⟨o', e1⟩ := I.base.there b o e (noX b)
    by_cases hb : b ∈ frs X.stack
    · obtain ⟨s2, e2⟩ := sl b _ e1 hb
      exact ⟨_, e2⟩
    · obtain ⟨o2, q⟩ := thB b o' (nX b o e) e1 hb
      exact ⟨o2, f.1 _ _ q⟩
  · obtain ⟨m1, e1⟩ := I.base.tbls b ps e
    obtain ⟨m2, e2⟩ := tbls b _ e1
    exact ⟨m1 ++ m2, by rw [e2, Array.append_assoc]⟩
  · exact inB b o (nX b o e) (I.base.keep b o e n hb (noX b)) (I.base.free b o e n (noX b)) (nS b o e hb)
  · obtain ⟨o', e1⟩ := I.base.there b o e (noX b)
    exact thB b o' (nX b o e) e1 (nS b o e hb)
end

/-- the body's exceptions: R of the names' values where it comes up; a callee's, and one that is raised here -/
def PassesR (CX : CXT) (X : Cx) (R : St → XK) : Prop := ∀ (pins : List (Addr × Obj)) (σ : St) (H : Hp) (s : Shared) (e : Value) (s' : Shared), Inv X pins σ H s → CX X.stack H s (R σ) e s' → X.xe e s'
def Raises (X : Cx) (R : St → XK) : Prop := ∀ (pins : List (Addr × Obj)) (σ : St) (H : Hp) (s : Shared) (x : Addr) (o : Obj) (vs : Array Value), Inv X pins σ H s → s.heap.get? x = some { o with data := .fields vs } → vs[1]? = some .none → vs[2]? = some .none → X.s₀.heap.get? x = none → H x = none →
  R σ o.cls o.dict H → X.xe (.ref x) s
section
variable {P : Program} {w : World} {K : PySem.W.Frag} {mg : Str → Option Value} {base : Heap} {N : List Str} {qual : Str} {scope : Scope} {f : Addr} {cd : Value} {A : Around} {outer : List Env} {s₀ : Shared} {H₀ : Hp} {E : XK}
theorem stk_sub {env : Env} {outer : List Env} : ∀ b ∈ frs outer, b ∈ frs (env :: outer) := fun b hb => by
  obtain ⟨en, he, hf⟩ := List.mem_filterMap.mp hb
  exact List.mem_filterMap.mpr ⟨en, List.mem_cons_of_mem _ he, hf⟩
theorem passes1 : PassesR (CX1 P w) (cxOf (CX1 P w) P w K mg base N qual scope f cd A outer s₀ H₀ E) (fun _ => E) := by
  intro pins σ H s e s' I hx
  obtain ⟨x, o, H', B, rfl, os, bare, F, hE⟩ := hx
  show wpAny _ _ (do noteFrame (.ref x) _; setFlight (.ref x) none) _ _ s'
  refine wpAny_bind (fl_on (B := B) I.ok.frames rfl F.fly fun h4 f4 u4 => fl_land f4 fun h5 f5 u5 => ?_)
  refine ⟨x, o, H', B, rfl, os.trans I.os, bare, Fly.leave I rfl stk_sub F.ok (fl_pop f5) ?_ (fun b o _ => F.inB b o) (fun b o _ => F.thB b o) (fun b o q hb => ?_) (fun b o q n => F.un.free b o q n (by simp)) F.un.tups F.un.frzs F.un.tbls, hE⟩
  · show s₀.heap.get? x = none
    cases q : s₀.heap.get? x with
    | none => rfl
    | some u =>
      obtain ⟨u', e1⟩ := I.base.there x u q (fun z => nomatch z)
      by_cases hb : x ∈ frs (cxOf (CX1 P w) P w K mg base N qual scope f cd A outer s₀ H₀ E).stack
      · obtain ⟨vs, _, _, _, hxx, _⟩ := F.fly.2.2.2
        obtain ⟨_, o', ho', hd⟩ := F.fly.2.2.1.mem hb
        rw [hxx] at ho'; cases ho'
        exact absurd rfl (hd _)
      · obtain ⟨u2, e2⟩ := F.thB x u' e1 hb
        rw [F.fly.2.1] at e2; cases e2
  · obtain ⟨sl, e1⟩ := F.un.slot b o q (I.stkFree b hb) hb (by simp)
    obtain ⟨_, o', ho', hd⟩ := F.fly.2.2.1.mem hb
    rw [e1] at ho'; cases ho'
    obtain ⟨sl2, e2⟩ := (u4.trans u5) b _ e1 hd
    exact ⟨sl2, e2⟩
theorem raises1 : Raises (cxOf (CX1 P w) P w K mg base N qual scope f cd A outer s₀ H₀ E) (fun _ => E) := by
  intro pins σ H s x o vs I hx h1 h2 nx0 nH hE
  show wpAny _ _ (do noteFrame (.ref x) _; setFlight (.ref x) none) _ _ s
  have hin : ∀ env ∈ (cxOf (CX1 P w) P w K mg base N qual scope f cd A outer s₀ H₀ E).stack, ∀ b, env.frame = some b → b ∈ x :: frs (cxOf (CX1 P w) P w K mg base N qual scope f cd A outer s₀ H₀ E).stack :=
    fun env he b hb => List.mem_cons_of_mem _ (List.mem_filterMap.mpr ⟨env, he, hb⟩)
  refine wpAny_bind (fl_first (B := PySem.W.hideAll s.heap (x :: frs (cxOf (CX1 P w) P w K mg base N qual scope f cd A outer s₀ H₀ E).stack)) I.ok.frames rfl (fun b o q => PySem.W.of_hideAll _ q) (PySem.W.hideAll_none _ List.mem_cons_self)
    (PySem.W.funFrames_hide I.stack hin) hx h1 h2 fun h4 f4 u4 => fl_land f4 fun h5 f5 u5 => ?_)
  have hid : ∀ b u, b ≠ x → s.heap.get? b = some u → b ∉ frs (cxOf (CX1 P w) P w K mg base N qual scope f cd A outer s₀ H₀ E).stack → (PySem.W.hideAll s.heap (x :: frs (cxOf (CX1 P w) P w K mg base N qual scope f cd A outer s₀ H₀ E).stack)).get? b = some u :=
    fun b u nb q hb => PySem.W.hideAll_get _ q fun z => (List.mem_cons.mp z).elim nb hb
  refine ⟨x, o, H, _, rfl, I.os, I.bare, Fly.leave I rfl stk_sub (fun a o e => (I.hok a o e).stay (fun b v hb q => ?_) (fun _ q => q) fun _ _ q => q) (fl_pop f5) nx0
    (fun b o nb q _ hb => hid b o nb q hb) (fun b o nb q hb => ⟨o, hid b o nb q hb⟩) (fun b o q hb => ?_) (fun _ _ _ n => n) (fun _ _ q => q) (fun _ _ _ q => q) (fun b ps q => ⟨#[], by rw [q]; simp⟩), hE⟩
  · have tr : H b ≠ none := fun n => by
      rcases hb with hb | hb
      · rw [hb, e] at n; cases n
      · rw [hb] at n; cases n
    exact hid b v (fun z => tr (by rw [z]; exact nH)) q fun z => tr (I.stkFree b z)
  · obtain ⟨_, o', ho', hd⟩ := I.stack.mem hb
    rw [q] at ho'; cases ho'
    exact (u4.trans u5) b o q hd
end

/-! ### a call whose exception may pass -/
def tCallR (sp : Sp) (dvs : List V) (R : St → XK) (t : TA) : TE := fun σ H Q => t σ H fun vs H1 => sp (vs ++ dvs) H1 Q (R σ)
section
variable {X : Cx} {CX : CXT} {k : Nat} {f : Addr} {fd : FuncData} {ps : List Str} {sp : Sp} {dvs : List V} {ds : List Value} {R : St → XK} {x : Str} {p pos : Pos} {e : Expr} {es : List Expr} {t : TA}
theorem run_fnR {pins : List (Addr × Obj)} {σ : St} {H : Hp} {s : Shared} {Q : VK} {us : List Value} {vs : List V} (F : FnOk X.prog X.w X.K X.mg X.base CX k f fd ps sp) (hr : Room k X.A) (hb : Binds X.K fd ps ds) (hd : Vals dvs ds) (hx : PassesR CX X R)
    (I : Inv X pins σ H s) (r : Vals vs us) (h : sp (vs ++ dvs) H Q (R σ)) : wpAny (model X.prog X.w) X.A (call (.ref f) us) (EP X pins σ Q) X.xe s := by
  have r2 : Vals (vs ++ dvs) (us ++ ds) := r.append hd
  have hl : (us ++ ds).length = ps.length := by rw [← r2.length]; exact F.len _ _ _ _ h
  refine wpAny_call (codeAny_mono (F.run X.A X.stack s H ⟨us, []⟩ (us ++ ds) (vs ++ dvs) Q (R σ) hr I.env0 (hb s us I.kIn hl) r2 h) fun r s' hq => ?_)
  cases r with
  | error e => exact hx pins σ H s e s' I hq
  | ok fl =>
    cases fl with
    | ret u => exact I.after hq
    | next => exact False.elim hq
    | brk => exact False.elim hq
    | cont => exact False.elim hq
theorem pe_callR (F : FnOk X.prog X.w X.K X.mg X.base CX k f fd ps sp) (hr : Room k X.A) (hg : Gl X x) (hm : X.mg x = some (.ref f)) (hk : PySem.W.keepIn X.K (.ref f) = true) (hb : Binds X.K fd ps ds) (hd : Vals dvs ds) (hx : PassesR CX X R)
    (ha : PA X (e :: es) t) (hdb : (x == ("__debug__" : Str)) = false := by decide) (he : starEach (e :: es) X.env = (false, eval e X.env) :: starEach es X.env := by rfl) (hpl : (backTo pos (starEach es X.env)).any (·.1) = false := by rfl) :
    PE X (.Call (.Name x p) (e :: es) [] pos) (tCallR sp dvs R t) := by
  intro pins s σ H Q I h
  refine wpAny_Call_Name_kw (ld_glob I hg hm ?_ hdb)
  refine PySem.W.callWith_K (h₀ := X.base) I.ok.mod.kin hk (thn (ha pos pins s σ H _ I h) fun us s1 ⟨vs, H1, I1, r, q⟩ => ⟨I1.kIn, ?_⟩) he hpl
  exact run_fnR F hr hb hd hx I1 r q
end

/-! ### raise C(args), C an own class under ValueError without __init__ -/
/-- the class at C, as the top has made it -/
structure ExcCls (K : PySem.W.Frag) (C : Addr) (bmB : List Value) (newId : String) : Prop where
  ok : PySem.W.excIn K C bmB newId = true
theorem ns_same {K : PySem.W.Frag} {N : Addr} {h0 h : Heap} {m : Str → Option Value} (q : PySem.W.nsOkIn K N = true) (X0 : K.In h0) (X : K.In h) (n : h0.Ns N m) : h.Ns N m := by
  obtain ⟨o, es, ep, e, r⟩ := n
  cases z : K.lookup N with
  | none => unfold PySem.W.nsOkIn at q; rw [z] at q; cases q
  | some ob =>
    have e0 := X0 _ _ z
    rw [e] at e0
    cases e0
    exact ⟨o, es, ep, X _ _ z, r⟩
theorem ExcCls.obj {K : PySem.W.Frag} {C : Addr} {bmB : List Value} {newId : String} {h0 : Heap} (c : ExcCls K C bmB newId) (X0 : K.In h0) :
    ∃ bm N nm q bs hdct sn sub ab col dd k0 k1 k2 k3 k5 mN, mN ("__init__" : Str) = none ∧
      ∀ h : Heap, K.In h → h.get? C = some (excClassObj nm q C N bs bm hdct sn sub ab col dd k0 k1 k2 k3 k5 newId) ∧ h.Ns N mN ∧ OwnTail h bmB bm := by
  have q := c.ok
  unfold PySem.W.excIn at q
  split at q
  · rename_i dd cd sl ho
    split at q
    · rename_i C' bm k0 k1 k2 k3 n k5 hm hs
      rw [Bool.and_eq_true, Bool.and_eq_true, Bool.and_eq_true, Bool.and_eq_true, Bool.and_eq_true] at q
      obtain ⟨⟨⟨⟨⟨q1, q2⟩, q3⟩, q4⟩, q5⟩, q6⟩ := q
      cases beq_iff_eq.mp q1
      cases beq_iff_eq.mp q2
      have q3 : cd.hasDel = false := by simpa using q3
      have hsl : sl = #[k0, k1, k2, k3, some (.builtin newId), k5] := by
        cases sl with | mk l => exact congrArg Array.mk hs
      obtain ⟨c1, c2, c3, c4, c5, c6, c7, c8, c9, c10, c11⟩ := cd
      cases (show c3 = _ from hm)
      cases (show c11 = _ from q3)
      subst hsl
      refine ⟨bm, c4, c1, c5, c2, c6, c7, c8, c9, c10, dd, k0, k1, k2, k3, k5, h0.nsMap c4, PySem.W.nsMap_none_of_in X0 q5 (beq_iff_eq.mp q6), fun h X => ⟨X _ _ ho, ?_, PySem.W.tail_of_in X q4⟩⟩
      exact ns_same q5 X0 X (.of_isNs (PySem.W.isNs_of_in X0 q5))
    · cases q
  · cases q
def tRaise (C : Addr) (R : St → XK) (t : TA) : TS := fun _ σ H => t σ H fun vs H1 => vs.length ≤ sizeLine ∧ R σ (.ref C) none H1
section
variable {X : Cx} {C : Addr} {R : St → XK} {t : TA} {Bn newId initId : String} {bmB : List Value} {x : Str} {np cpos pos : Pos} {e : Expr} {es : List Expr}
theorem ps_raise (hR : Raises X R) (hc : X.calm = true) (hex : X.ex = []) (F : ExcBaseFacts Bn newId initId bmB) (c : ExcCls X.K C bmB newId) (hg : Gl X x) (hm : X.mg x = some (.ref C)) (ha : PA X (e :: es) t)
    (hdb : (x == ("__debug__" : Str)) = false := by decide) (he : starEach (e :: es) X.env = (false, eval e X.env) :: starEach es X.env := by rfl) (hpl : (backTo cpos (starEach es X.env)).any (·.1) = false := by rfl) :
    PS X (.Raise (some (.Call (.Name x np) (e :: es) [] cpos)) none pos) (tRaise C R t) := by
  intro pins s σ H D I h
  obtain ⟨bm, N, nm, q, bs, hdct, sn, sub, ab, col, dd, k0, k1, k2, k3, k5, mN, hni, hob⟩ := c.obj I.kIn
  refine wpAny_Raise_call_subT (nm := nm) (q := q) (C := C) (N := N) (bs := bs) (bm := bm) (hdct := hdct) (sn := sn) (sub := sub) (ab := ab) (col := col) (dd := dd) (k0 := k0) (k1 := k1) (k2 := k2) (k3 := k3) (k5 := k5) F ((hob _ I.kIn).2.2.hasType F.hasBase) (I.ok.hd hc) (by rw [he]; show (false || (backTo cpos (starEach es X.env)).any (·.1)) = false; rw [hpl]; rfl) hni (ld_glob I hg hm ⟨rfl, ?_⟩ hdb)
  have h2 := ha cpos pins s σ H _ I h
  rw [he] at h2 ⊢
  refine Calls.evalArgs_plain (wpAny_mono h2 (fun us s2 z => ?_) fun _ _ y => y)
  obtain ⟨vs, H1, I1, r, hz, hq⟩ := z
  obtain ⟨g1, g2, g3⟩ := hob _ I1.kIn
  refine ⟨rfl, by rw [← r.length]; exact hz, g1, g2, g3, fun h' x M => ?_⟩
  obtain ⟨t, hx, _, _⟩ := M.there
  refine hR pins σ H1 { s2 with heap := h' } x { cls := .ref C, data := .fields #[] } _ (I1.kept (t' := s2.toks) M.keeps) hx rfl rfl ?_ ?_ hq
  · cases q : X.s₀.heap.get? x with
    | none => rfl
    | some u =>
      obtain ⟨u', e1⟩ := I1.base.there x u q (by rw [hex]; simp)
      rw [M.new] at e1; cases e1
  · cases q : H1 x with
    | none => rfl
    | some u =>
      obtain ⟨ob, e1⟩ := ObjOk.here (I1.hok x u q)
      rw [M.new] at e1; cases e1
end

/-! ### try: body, except D: suite -/
/-- the body of a try: its exceptions come to the handlers -/
def Cx.tryC (X : Cx) (R : St → XK) (pins : List (Addr × Obj)) : Cx := { X with
  pn := X.pn ++ pins
  xe := fun e s' => ∃ pins' σ H s, Inv { X with pn := X.pn ++ pins } pins' σ H s ∧ CX1 X.prog X.w X.stack H s (R σ) e s' }
/-- the suite behind except: the exception at x stands pinned; nothing may leave it -/
def Cx.suite (X : Cx) (x : Addr) (pn : List (Addr × Obj)) : Cx := { X with
  A := X.A.mark (some (.ref x))
  calm := false
  pn := pn
  xe := fun _ _ => False }
theorem Cx.Ok.pns {X : Cx} (ok : X.Ok) (pn : List (Addr × Obj)) (E : Value → Shared → Prop) : ({ X with pn := pn, xe := E } : Cx).Ok :=
  ⟨ok.mod, ok.kind, ok.glob, ok.blt, ok.above, ok.inj, ok.has, ok.cab, ok.hd, ok.frames, ok.stk, ok.exf, ok.bs, ok.bsz, ok.noex, ok.exfs, ok.funs, ok.frf⟩
theorem Cx.Ok.unpns {X : Cx} {pn : List (Addr × Obj)} {E : Value → Shared → Prop} (ok : ({ X with pn := pn, xe := E } : Cx).Ok) : X.Ok :=
  ⟨ok.mod, ok.kind, ok.glob, ok.blt, ok.above, ok.inj, ok.has, ok.cab, ok.hd, ok.frames, ok.stk, ok.exf, ok.bs, ok.bsz, ok.noex, ok.exfs, ok.funs, ok.frf⟩
theorem Cx.Ok.suite {X : Cx} (ok : X.Ok) (x : Addr) (pn : List (Addr × Obj)) : (Cx.suite X x pn).Ok :=
  ⟨ok.mod, ok.kind, ok.glob, ok.blt, ok.above, ok.inj, ok.has, ok.cab, (fun z => nomatch z), ok.frames, ok.stk, ok.exf, ok.bs, ok.bsz, ok.noex, ok.exfs, ok.funs, ok.frf⟩
theorem Cx.Ok.unsuite {X : Cx} {x : Addr} {pn : List (Addr × Obj)} (ok : (Cx.suite X x pn).Ok) (hd : X.calm = true → X.A.handled = none) : X.Ok :=
  ⟨ok.mod, ok.kind, ok.glob, ok.blt, ok.above, ok.inj, ok.has, ok.cab, hd, ok.frames, ok.stk, ok.exf, ok.bs, ok.bsz, ok.noex, ok.exfs, ok.funs, ok.frf⟩
section
variable {X : Cx} {pins pn : List (Addr × Obj)} {σ : St} {H : Hp} {s : Shared} {E : Value → Shared → Prop}
theorem Inv.pnsC (I : Inv X pins σ H s) (E : Value → Shared → Prop) : Inv { X with pn := X.pn ++ pins, xe := E } [] σ H s :=
  ⟨I.ok.pns _ _, I.os, I.bare, I.base, I.loc, I.cell, I.free, I.freeC, fun p hp => I.pin p (by rwa [List.append_nil] at hp), I.hok, I.len⟩
theorem Inv.unpnsC {p' : List (Addr × Obj)} (I : Inv { X with pn := X.pn ++ pins, xe := E } p' σ H s) : Inv X pins σ H s :=
  ⟨Cx.Ok.unpns I.ok, I.os, I.bare, I.base, I.loc, I.cell, I.free, I.freeC, fun p hp => I.pin p (List.mem_append_left _ hp), I.hok, I.len⟩
theorem SP.unpnsC {D : Ends} {f : Flow} {s' : Shared} {p' : List (Addr × Obj)} (h : SP { X with pn := X.pn ++ pins, xe := E } p' D f s') : SP X pins D f s' := by
  cases f with
  | next => obtain ⟨a, b, I, q⟩ := h; exact ⟨a, b, Inv.unpnsC I, q⟩
  | brk => obtain ⟨a, b, I, q⟩ := h; exact ⟨a, b, Inv.unpnsC I, q⟩
  | cont => obtain ⟨a, b, I, q⟩ := h; exact ⟨a, b, Inv.unpnsC I, q⟩
  | ret u => obtain ⟨v, a, b, I, r, q⟩ := h; exact ⟨v, a, b, Inv.unpnsC I, r, q⟩
theorem Inv.suiteC (I : Inv X pins σ H s) (x : Addr) {oe : Obj} (hx : s.heap.get? x = some oe) (hn : H x = none) (hL : x ≠ X.env.locals) (hf : x ∉ X.fs) (hd : ∀ v, oe.data ≠ .cell v) : Inv (Cx.suite X x (X.pn ++ pins ++ [(x, oe)])) [] σ H s :=
  ⟨I.ok.suite _ _, I.os, I.bare, I.base, I.loc, I.cell, I.free, I.freeC, fun p hp => by
    rw [List.append_nil] at hp
    rcases List.mem_append.mp hp with z | z
    · exact I.pin p z
    · have e : p = (x, oe) := by simpa using z
      subst e
      exact ⟨hx, hn, hL, hf, hd⟩, I.hok, I.len⟩
theorem Inv.suiteN (I : Inv X pins σ H s) (x : Addr) : Inv (Cx.suite X x (X.pn ++ pins)) [] σ H s :=
  ⟨I.ok.suite _ _, I.os, I.bare, I.base, I.loc, I.cell, I.free, I.freeC, fun p hp => I.pin p (by rwa [List.append_nil] at hp), I.hok, I.len⟩
theorem Inv.unsuiteC {x : Addr} {more : List (Addr × Obj)} {p' : List (Addr × Obj)} (I : Inv (Cx.suite X x (X.pn ++ pins ++ more)) p' σ H s) (hd : X.calm = true → X.A.handled = none) : Inv X pins σ H s :=
  ⟨Cx.Ok.unsuite I.ok hd, I.os, I.bare, I.base, I.loc, I.cell, I.free, I.freeC, fun p hp => I.pin p (List.mem_append_left _ (List.mem_append_left _ hp)), I.hok, I.len⟩
/-- the exception has come back to this frame: the state behind -/
theorem Fly.back {H' : Hp} {s' : Shared} {B : Heap} {x : Addr} {o : Obj} (I : Inv X pins σ H s) (os : s'.os = s.os) (bare : AllBare s'.gens) (F : Fly X.prog X.w X.stack H H' s.heap s'.heap B x o) : Inv X pins σ H' s' :=
  I.call' os F.un F.hok bare (fun b z => absurd z (by simp))
end

section
variable {M : Model} {A : Around} {E : Value → Shared → Prop} {K : PySem.W.Frag} {s : Shared}
theorem exc_matches {C D : Addr} {bmB' : List Value} {newId' : String} {x : Addr} {oe : Obj} {Q : Bool → Shared → Prop} (X : K.In s.heap) (d : ExcCls K D bmB' newId') (hb : bmB'.contains (.type "BaseException") = true)
    (hu : PySem.W.subIn K (.ref C) (.ref D) = some true) (hx : s.heap.get? x = some oe) (hc : oe.cls = .ref C) (h : Q true s) : wpAny M A (excMatches (.ref x) (.ref D)) Q E s := by
  obtain ⟨hp, g, dr, t, os⟩ := s
  obtain ⟨bm', N', nm', q', bs', hdct', sn', sub', ab', col', dd', k0', k1', k2', k3', k5', mN', hni', hob'⟩ := d.obj X
  have hD := (hob' _ X).1
  have hcD : (Value.ref D :: bm').contains (.type "BaseException") = true := by
    rw [List.contains_cons, (hob' _ X).2.2.hasType hb, Bool.or_true]
  have hcC := PySem.W.looks_subIn (M := M) X hu
  have f := tc_notTuple
  unfold excMatches
  repeat (first | (with_reducible refine wpAny_loadPart_at hx ?_; rw [hc]) | with_reducible refine wpAny_loadPart_at hD ?_ | (with_reducible refine wpAny_isSubtype_exc hD ?_; rw [hcD]) | with_reducible refine hcC.at ?_ | wp_step)
  exact h
end

section
variable {X : Cx} {pins : List (Addr × Obj)} {σ : St} {H H' H1 : Hp} {s s0 : Shared} {B h0 : Heap} {x : Addr} {o : Obj}
/-- the suite begins: the exception is pinned -/
theorem suite_at (I : Inv X pins σ H' s) (hst : X.stack = X.env :: X.outer) (hf : X.env.frame = some X.env.locals) (F : Fly X.prog X.w X.stack H1 H' h0 s.heap B x o) : ∃ vs : Array Value, vs[2]? = some .none ∧ Inv (Cx.suite X x (X.pn ++ pins ++ [(x, { o with data := .fields vs })])) [] σ H' s := by
  obtain ⟨vs, _, _, _, hx, hv2, _⟩ := F.fly.2.2.2
  have nfr : ∀ b ∈ frs X.stack, x ≠ b := fun b hb z => by
    subst z
    obtain ⟨_, o', ho', hd⟩ := F.fly.2.2.1.mem hb
    rw [hx] at ho'; cases ho'
    exact hd _ rfl
  refine ⟨vs, hv2, Inv.suiteC I x hx F.nx (nfr _ (by rw [hst]; exact List.mem_filterMap.mpr ⟨X.env, List.mem_cons_self, hf⟩)) (fun z => nfr x (by rw [hst]; exact stk_sub x z) rfl) (fun v q => by cases q)⟩
end
def tTry0 (K : PySem.W.Frag) (D : Addr) (tb : (St → XK) → TS) (ts : TS) : TS := fun Dn σ H => ∃ R : St → XK, tb R Dn σ H ∧
  ∀ σ' cls od H', R σ' cls od H' → ∃ C, cls = .ref C ∧ PySem.W.subIn K (.ref C) (.ref D) = some true ∧ ts Dn σ' H'
section
variable {X : Cx} {body : List Stmt} {D : Addr} {dn : Str} {b₀ : Stmt} {suite : List Stmt} {pos hpos np : Pos} {tb : (St → XK) → TS} {ts : TS} {bmB' : List Value} {newId' : String}
theorem ps_try0 (hc : X.calm = true) (hst : X.stack = X.env :: X.outer) (hf : X.env.frame = some X.env.locals) (d : ExcCls X.K D bmB' newId') (hbe : bmB'.contains (.type "BaseException") = true) (hg : Gl X dn) (hm : X.mg dn = some (.ref D))
    (hb : ∀ (R : St → XK) (pins : List (Addr × Obj)), PSs (Cx.tryC X R pins) body (tb R))
    (hs : ∀ (x : Addr) (pn : List (Addr × Obj)), PSs (Cx.suite X x pn) (b₀ :: suite) ts) (hdb : (dn == ("__debug__" : Str)) = false := by decide) :
    PS X (.Try body [.ExceptHandler (some (.Name dn np)) none (b₀ :: suite) hpos] [] [] pos) (tTry0 X.K D tb ts) := by
  intro pins s σ H Dn I h
  obtain ⟨R, h1, h2⟩ := h
  refine wpAny_Try_except (wpAny_mono (hb R pins [] s σ H Dn (Inv.pnsC I _) h1) (fun fl s1 z => ?_) fun e s1 z => ?_)
  · have z' : SP X pins Dn fl s1 := SP.unpnsC z
    cases fl with
    | next => exact wpAny_execs_nil z'
    | brk => exact z'
    | cont => exact z'
    | ret u => exact z'
  · obtain ⟨pins', σ', H1, s0, I0, hx⟩ := z
    obtain ⟨x, o, H', B, rfl, os, bare, F, hE⟩ := hx
    have I0 : Inv X pins σ' H1 s0 := Inv.unpnsC (E := X.xe) I0
    obtain ⟨C, ec, hu, hts⟩ := h2 σ' _ _ H' hE
    have hfr : X.A.frames = some (X.env :: X.outer) := by rw [← hst]; exact I0.ok.frames
    refine fl_on (B := B) hfr hf (by rw [← hst]; exact F.fly) fun h4 f4 u4 => ?_
    refine fl_land f4 fun h5 f5 u5 => ?_
    have F5 := F.on (by rw [hst]; exact f5) (u4.trans u5)
    have I5 : Inv X pins σ' H' { s1 with heap := h5 } := F5.back I0 os bare
    obtain ⟨v5, _, _, _, hx5, _⟩ := f5.2.2.2
    refine wpAny_handleBy_cons (codeAny_handlers_test (ld_glob (X := Cx.suite X x (X.pn ++ pins)) (Inv.suiteN I5 x) hg hm ?_ hdb)) (by intro q; cases q)
    refine exc_matches I5.kIn d hbe hu hx5 ec (codeAny_handlers_suite ?_)
    refine fl_land f5 fun h6 f6 u6 => ?_
    have F6 := F5.on (by rw [hst]; exact f6) u6
    have I6 : Inv X pins σ' H' { s1 with heap := h6 } := F6.back I0 os bare
    obtain ⟨vs, _, J⟩ := suite_at I6 hst hf F6
    refine wpAny_mono (hs x _ [] _ σ' H' Dn J hts) (fun fl s7 z => ?_) fun _ _ z => z.elim
    cases fl with
    | next => obtain ⟨a, b, I7, q⟩ := z; exact ⟨a, b, Inv.unsuiteC I7 I0.ok.hd, q⟩
    | brk => obtain ⟨a, b, I7, q⟩ := z; exact ⟨a, b, Inv.unsuiteC I7 I0.ok.hd, q⟩
    | cont => obtain ⟨a, b, I7, q⟩ := z; exact ⟨a, b, Inv.unsuiteC I7 I0.ok.hd, q⟩
    | ret u => obtain ⟨v, a, b, I7, r, q⟩ := z; exact ⟨v, a, b, Inv.unsuiteC I7 I0.ok.hd, r, q⟩
end
theorem passesT {X : Cx} {R : St → XK} {pins : List (Addr × Obj)} : PassesR (CX1 X.prog X.w) (Cx.tryC X R pins) R := by
  intro pins' σ H s e s' I hx
  exact ⟨pins', σ, H, s, ⟨Cx.Ok.pns (Cx.Ok.unpns I.ok) _ _, I.os, I.bare, I.base, I.loc, I.cell, I.free, I.freeC, I.pin, I.hok, I.len⟩, hx⟩
end L2

namespace L2
open PySem PySem.Spec PyProof.Rows
/-! ### comprehensions: one clause, a plain name, no test -/
def clOf (env : Env) : List (Str × NameKind) → List (Str × Addr) → List (Str × Addr)
  | [], acc => acc
  | p :: r, acc => clOf env r (if p.2 == .free then (p.1, (env.cells.lookup p.1).getD 0) :: acc else acc)
theorem closure_is {scope : Scope} {env : Env} (h : ∀ p ∈ scope.names, p.2 = .free → (env.cells.lookup p.1).isSome = true) : closureFor scope env = pure (clOf env scope.names []) := by
  have key : ∀ (l : List (Str × NameKind)) (acc : List (Str × Addr)), (∀ p ∈ l, p.2 = .free → (env.cells.lookup p.1).isSome = true) →
      (forIn l acc (fun (p : Str × NameKind) (r : List (Str × Addr)) => (if p.2 == .free then (do let c ← cellOf env p.1; pure (ForInStep.yield ((p.1, c) :: r))) else pure (ForInStep.yield r) : Sem (ForInStep (List (Str × Addr)))))) = (pure (clOf env l acc) : Sem (List (Str × Addr))) := by
    intro l
    induction l with
    | nil => intro acc _; rfl
    | cons p r ih =>
      intro acc hp
      rw [List.forIn_cons]
      have ih' := fun a => ih a fun q hq => hp q (List.mem_cons_of_mem _ hq)
      obtain ⟨n, k⟩ := p
      by_cases hk : k = .free
      · subst hk
        have hs := hp (n, .free) List.mem_cons_self rfl
        cases hl : env.cells.lookup n with
        | none => rw [show env.cells.lookup (n, NameKind.free).1 = none from hl] at hs; cases hs
        | some c =>
          have e1 : clOf env ((n, .free) :: r) acc = clOf env r ((n, c) :: acc) := by
            show clOf env r (if (NameKind.free == NameKind.free) = true then (n, (env.cells.lookup n).getD 0) :: acc else acc) = _
            rw [if_pos (by decide), hl]
            rfl
          have e2 : cellOf env n = pure c := by unfold cellOf; rw [hl]
          rw [e1]
          have e3 : (NameKind.free == NameKind.free) = true := by decide
          simp only [e3, if_true, e2, pure_bind]
          exact ih' _
      · have hb : (k == NameKind.free) = false := by simpa using hk
        have e1 : clOf env ((n, k) :: r) acc = clOf env r acc := by
          show clOf env r (if (k == NameKind.free) = true then (n, (env.cells.lookup n).getD 0) :: acc else acc) = _
          rw [hb, if_neg (by decide)]
        rw [e1]
        simp only [hb, Bool.false_eq_true, if_false, pure_bind]
        exact ih' _
  have := key scope.names [] h
  unfold closureFor
  first
    | exact this
    | (simp only [bind_pure]; exact this)
    | (rw [bind_pure]; exact this)
theorem clOf_look {env : Env} {y : Str} {c : Addr} : ∀ (l : List (Str × NameKind)) (acc : List (Str × Addr)), (∀ p ∈ l, p.2 = .free → (env.cells.lookup p.1).isSome = true) →
    (acc.lookup y = some c → env.cells.lookup y = some c) → (clOf env l acc).lookup y = some c → env.cells.lookup y = some c
  | [], acc, _, ha, h => ha h
  | (n, k) :: r, acc, hp, ha, h => by
    refine clOf_look r _ (fun q hq => hp q (List.mem_cons_of_mem _ hq)) (fun e => ?_) h
    split at e
    · rename_i hk
      rw [List.lookup_cons] at e
      cases q : (y == n) with
      | true =>
        rw [q] at e
        have e' : (env.cells.lookup n).getD 0 = c := Option.some.inj e
        have hn : y = n := by simpa using q
        subst hn
        have hs := hp (y, k) List.mem_cons_self (by simpa using hk)
        cases z : env.cells.lookup y with
        | none => rw [show env.cells.lookup (y, k).1 = none from z] at hs; cases hs
        | some d => rw [z] at e'; rw [← e']; rfl
      | false => rw [q] at e; exact ha e
    · exact ha e
theorem clOf_has {env : Env} {y : Str} : ∀ (l : List (Str × NameKind)) (acc : List (Str × Addr)), ((y, NameKind.free) ∈ l ∨ (acc.lookup y).isSome = true) → ((clOf env l acc).lookup y).isSome = true
  | [], acc, h => by
    rcases h with h | h
    · cases h
    · exact h
  | (n, k) :: r, acc, h => by
    refine clOf_has r _ ?_
    by_cases hy : y = n
    · subst hy
      by_cases hk : k = .free
      · subst hk
        right
        show (List.lookup y (if (NameKind.free == NameKind.free) = true then (y, (env.cells.lookup y).getD 0) :: acc else acc)).isSome = true
        rw [if_pos (by decide), List.lookup_cons, beq_self_eq_true]
        rfl
      · rcases h with h | h
        · rcases List.mem_cons.mp h with z | z
          · exact absurd (Prod.mk.inj z).2.symm hk
          · exact .inl z
        · right
          rw [if_neg (by simpa using hk)]
          exact h
    · rcases h with h | h
      · rcases List.mem_cons.mp h with z | z
        · exact absurd (Prod.mk.inj z).1 hy
        · exact .inl z
      · right
        split
        · rw [List.lookup_cons, show (y == n) = false by simpa using hy]
          exact h
        · exact h
/-- the block's context -/
def Cx.comp (X : Cx) (Nc : List Str) (scope : Scope) (C : Addr) (s : Shared) (H : Hp) (fp : List Addr) : Cx := { X with
  N := Nc
  s₀ := s
  H₀ := H
  env := compEnvC scope (clOf X.env scope.names []) C X.env
  outer := X.stack
  ex := fp
  fn := fun _ => false
  pn := []
  xe := fun _ _ => False }
/-- what the block's scope must be: its own name x, the others the def's at the places caps -/
structure CompScope (X : Cx) (scope : Scope) (x : Str) (ys : List Str) (caps : List Nat) : Prop where
  kind : scope.kind = .function
  nocell : ∀ p ∈ scope.names, p.2 ≠ .cell
  names : ∀ p ∈ scope.names, p.2 = .local → scope.names.lookup p.1 = some .local
  own : scope.names.lookup x = some .local
  free : ∀ p ∈ scope.names, p.2 = .free → X.env.scope.names.lookup p.1 = some .cell
  nd : (x :: ys).Nodup
  cap : ∀ q ∈ ys.zip caps, X.N[q.2]? = some q.1 ∧ X.env.scope.names.lookup q.1 = some .cell ∧ scope.names.lookup q.1 = some .free
  len : ys.length = caps.length
theorem rel_in {env : Env} {y : Str} : ∀ {l : List (Str × NameKind)}, (∀ p ∈ l, p.2 ≠ .cell) →
    ((l.map fun (n, k) => if (k == NameKind.free && env.scope.kind == .function && env.kindOf n == some .cell) then (n, NameKind.cell) else (n, k)).lookup y = some .cell ∨
     (l.map fun (n, k) => if (k == NameKind.free && env.scope.kind == .function && env.kindOf n == some .cell) then (n, NameKind.cell) else (n, k)).lookup y = some .free) → (y, NameKind.free) ∈ l
  | [], _, h => by rcases h with h | h <;> cases h
  | (n, k) :: r, hc, h => by
    have ih := @rel_in env y r (fun p hp => hc p (List.mem_cons_of_mem _ hp))
    rw [List.map_cons] at h
    by_cases q : (k == NameKind.free && env.scope.kind == .function && env.kindOf n == some .cell) = true
    · have hk : k = .free := by
        rw [Bool.and_eq_true, Bool.and_eq_true] at q
        simpa using q.1.1
      subst hk
      by_cases hy : y = n
      · subst hy; exact List.mem_cons_self
      · refine List.mem_cons_of_mem _ (ih ?_)
        have hb : (y == n) = false := by simpa using hy
        simp only [q, if_true, List.lookup_cons, hb] at h
        exact h
    · by_cases hy : y = n
      · subst hy
        have hb : (y == y) = true := by simp
        simp only [q, Bool.false_eq_true, if_false, List.lookup_cons, hb] at h
        rcases h with h | h
        · exact absurd (Option.some.inj h) (hc (y, k) List.mem_cons_self)
        · rw [← Option.some.inj h]; exact List.mem_cons_self
      · refine List.mem_cons_of_mem _ (ih ?_)
        have hb : (y == n) = false := by simpa using hy
        simp only [q, Bool.false_eq_true, if_false, List.lookup_cons, hb] at h
        exact h
theorem rel_cell {env : Env} {y : Str} (hk : env.scope.kind = .function) (hy : env.kindOf y = some .cell) : ∀ {l : List (Str × NameKind)}, l.lookup y = some .free →
    (l.map fun (n, k) => if (k == NameKind.free && env.scope.kind == .function && env.kindOf n == some .cell) then (n, NameKind.cell) else (n, k)).lookup y = some .cell
  | [], h => by cases h
  | (n, k) :: r, h => by
    have ih := @rel_cell env y hk hy r
    rw [List.map_cons]
    rw [List.lookup_cons] at h
    by_cases e : y = n
    · subst e
      have hb : (y == y) = true := by simp
      rw [hb] at h
      have : k = .free := Option.some.inj h
      subst this
      have q : (NameKind.free == NameKind.free && env.scope.kind == .function && env.kindOf y == some .cell) = true := by rw [hk, hy]; rfl
      simp only [q, if_true, List.lookup_cons, hb]
    · have hb : (y == n) = false := by simpa using e
      rw [hb] at h
      by_cases q : (k == NameKind.free && env.scope.kind == .function && env.kindOf n == some .cell) = true
      · simp only [q, if_true, List.lookup_cons, hb]; exact ih h
      · simp only [q, Bool.false_eq_true, if_false, List.lookup_cons, hb]; exact ih h
theorem CompScope.has {X : Cx} {scope : Scope} {x : Str} {ys : List Str} {caps : List Nat} (S : CompScope X scope x ys caps) (ok : X.Ok) : ∀ p ∈ scope.names, p.2 = .free → (X.env.cells.lookup p.1).isSome = true := fun p hp hf => by
  obtain ⟨c, e⟩ := ok.has p.1 (.inl (S.free p hp hf))
  rw [e]; rfl
theorem zip_at {α β : Type} : ∀ {xs : List α} {ys : List β} {j : Nat} {x : α} {y : β}, xs[j]? = some x → ys[j]? = some y → (x, y) ∈ xs.zip ys
  | x :: xs, y :: ys, 0, _, _, h1, h2 => by cases h1; cases h2; exact List.mem_cons_self
  | x :: xs, y :: ys, j + 1, _, _, h1, h2 => List.mem_cons_of_mem _ (zip_at (xs := xs) (ys := ys) (j := j) h1 h2)
  | [], _, _, _, _, h1, _ => by simp at h1
  | _ :: _, [], _, _, _, _, h2 => by simp at h2
/-- the captured names' values -/
def capV (caps : List Nat) (σ : St) : St := caps.map fun i => (σ[i]?).join
/-- the turns of a comprehension that fills the list at D: W by the turn, a measure, the items so far, the heap -/
def CompR (J : It) (te : TE) (cs : St) (Q : VK) (H1 : Hp) (D : Addr) : Prop :=
  ∃ W : Nat → Nat → List V → Hp → Prop, (∃ m, W 0 m [] (upd H1 D (.lst []))) ∧ ∀ i m ys H2, W i m ys H2 → H2 D = some (.lst ys) ∧
    ((J.stop i H2 ∧ Q (.ref D) H2) ∨ (J.go i H2 ∧ ∀ x H3, J.yld i H2 x H3 → te (some x :: cs) H3 fun y H4 => H4 D = some (.lst ys) ∧ ys.length < sizeLine ∧ ∃ m', m' < m ∧ W (i + 1) m' (ys ++ [y]) (upd H4 D (.lst (ys ++ [y])))))
def tComp (wi : TI) (te : TE) (caps : List Nat) : TE := fun σ H Q => wi σ H fun J H1 => ∀ D, H1 D = none → CompR J te (capV caps σ) Q H1 D
section
variable {X : Cx} {elt iter : Expr} {x : Str} {px : Pos} {scope : Scope} {pos : Pos} {wi : TI} {te : TE} {ys : List Str} {caps : List Nat}
/-- the block runs; what stands behind it -/
theorem comp_run (S : CompScope X scope x ys caps) (hc : X.calm = true) (he : ∀ C s H fp, PE (Cx.comp X (x :: ys) scope C s H fp) elt te)
    {pins : List (Addr × Obj)} {σ : St} {H2 : Hp} {s2 : Shared} {it : Addr} {fp : List Addr} {tn : Nat → Heap → Prop} {J : It} {Q : V → Hp → Prop} {PQ : Value → Addr → Result → Shared → Prop} (I : Inv X pins σ H2 s2) (T : Turn X.prog X.w X.K (.Name x px) J fp it tn) (t0 : tn 0 s2.heap) (f2 : ∀ b ∈ fp, FpOk X pins H2 b)
    (h : ∀ D, H2 D = none → CompR J te (capV caps σ) Q H2 D)
    (hPQ : ∀ D C s' H', Inv X pins σ H' s' → Q (.ref D) H' → (∃ m, s'.heap.Ns C m) → H' C = none → X.s₀.heap.objs.size ≤ C → C ≠ X.env.locals → (∀ z c, X.env.cells.lookup z = some c → c ≠ C) → (∀ p ∈ X.pn ++ pins, p.1 ≠ C) → PQ (.ref D) C (.ok .next) s') :
    wpAny (model X.prog X.w) X.A (newList []) (fun acc s3 => wpAny (model X.prog X.w) X.A (newFunctionEnv scope X.env.globals (clOf X.env scope.names []) [] X.env.qual none .none (some X.env)) (fun cenv s4 =>
      codeAny (model X.prog X.w) X.A (.compStart (.ListComp elt [⟨.Name x px, iter, [], 0⟩] scope pos) 0 (.ref it) acc { cenv with scope := relabel scope X.env }) (PQ acc cenv.locals) s4) X.xe s3) X.xe s2 := by
  have hD : H2 s2.heap.objs.size = none := I.fresh
  obtain ⟨W, ⟨m0, w0⟩, step⟩ := h _ hD
  refine wpAny_newObj_type ?_
  have I3 : Inv X pins σ (upd H2 s2.heap.objs.size (.lst [])) { s2 with heap := s2.heap.push { cls := .type "list", data := .seq ([] : List Value).toArray } } := Inv.lnew (t' := s2.toks) I (ys := []) (its := []) .nil (Nat.zero_le _)
  generalize hH3 : upd H2 s2.heap.objs.size (.lst []) = H3 at I3 w0
  generalize hs3 : ({ s2 with heap := s2.heap.push { cls := .type "list", data := .seq ([] : List Value).toArray } } : Shared) = s3 at I3
  have hfp3 : ∀ b ∈ fp, H3 b = none := fun b hb => by
    obtain ⟨o, e, _⟩ := T.obj _ _ t0 b hb
    rw [← hH3, upd_ne (Nat.ne_of_lt (Heap.lt_size e))]
    exact (f2 b hb).1
  have t3 : tn 0 s3.heap := T.keep _ _ _ t0 fun b hb o e => by rw [← hs3]; exact Heap.get?_push_of_some _ e
  refine wpAny_newFunctionEnv S.nocell (fun y hy => nomatch hy) (fun h4 ns4 sb4 => ?_) S.kind
  have hC : H3 s3.heap.objs.size = none := I3.fresh
  have kp : ∀ b o, s3.heap.get? b = some o → h4.get? b = some o := fun b o e =>
    (sb4.2 b (Nat.ne_of_lt (Heap.lt_size e))).trans (Heap.get?_push_of_some _ e)
  generalize hs4 : ({ s3 with heap := h4, toks := s3.toks + ([] : List (Str × Value)).length } : Shared) = s4
  have e4 : s4.heap = h4 := by rw [← hs4]
  have cne : ∀ z c, X.env.cells.lookup z = some c → c ≠ s3.heap.objs.size := fun z c e q => by
    obtain ⟨v, w⟩ := I3.cell z c e
    exact Nat.lt_irrefl _ (q ▸ w.lt)
  have cl_in : ∀ z c, (clOf X.env scope.names []).lookup z = some c → X.env.cells.lookup z = some c := fun z c e => clOf_look scope.names [] (S.has I.ok) (fun q => nomatch q) e
  have Lne : s3.heap.objs.size ≠ X.env.locals := Nat.ne_of_gt I3.lt
  -- the block's invariant at its start
  have ok : (Cx.comp X (x :: ys) scope s3.heap.objs.size s3 H3 fp).Ok := by
    refine ⟨I3.ok.mod, S.kind, I3.ok.glob, I3.ok.blt, Nat.le_refl _, fun z z' c e1 e2 => I3.ok.inj z z' c (cl_in z c e1) (cl_in z' c e2), fun z hz => ?_, fun z c hz => (by cases hz), I3.ok.hd, I3.ok.frames, .inl rfl, fun b hb => ⟨?_, fun z c e => ?_⟩, I3.bs, ?_, fun b o e hb => ?_, fun b hb hf => ?_, I3.stack, I3.stkFree⟩
    · have := clOf_has (env := X.env) scope.names [] (.inl (rel_in S.nocell hz))
      exact Option.isSome_iff_exists.mp this
    · obtain ⟨o, e, _⟩ := T.obj _ _ t3 b hb
      exact Nat.ne_of_lt (Heap.lt_size e)
    · exact (f2 b hb).2.2.2.2.1 z c (cl_in z c e)
    · exact Nat.le_trans I3.ok.bsz I3.sz
    · obtain ⟨_, _, _, hy, _⟩ := f2 b hb
      have e0 := (I3.ok.bs b o e).1
      rcases hy with hy | hy
      · exact I3.ok.noex b o e hy
      · exact absurd (Nat.lt_of_lt_of_le (Heap.lt_size e0) hy) (Nat.lt_irrefl _)
    · obtain ⟨_, hl, hfs, _⟩ := f2 b hb
      exact (List.mem_cons.mp (I3.stkSub b hf)).elim hl hfs
  have hlen : ((none : Option V) :: capV caps σ).length = (x :: ys).length := by
    rw [List.length_cons, List.length_cons, S.len]
    unfold capV
    rw [List.length_map]
  have I4 : Inv X pins σ H3 s4 := by
    rw [← hs4]
    exact I3.kept kp
  have Ic : Inv (Cx.comp X (x :: ys) scope s3.heap.objs.size s3 H3 fp) [] ((none : Option V) :: capV caps σ) H3 s4 := by
    refine ⟨ok, by rw [← hs4]; rfl, I4.bare, Un.kept (by rw [e4]; exact kp), ⟨_, by rw [e4]; exact ns4, fun i z v e1 e2 e3 => ?_⟩, fun z c e => I4.cell z c (cl_in z c e), hC, fun z c e => I4.freeC z c (cl_in z c e), (fun p hp => nomatch hp), I4.hok, hlen⟩
    cases i with
    | zero => cases e2
    | succ j =>
      have e1 : ys[j]? = some z := e1
      have e2 : (capV caps σ)[j]? = some (some v) := e2
      unfold capV at e2
      rw [List.getElem?_map] at e2
      cases hi : caps[j]? with
      | none => rw [hi] at e2; cases e2
      | some i =>
        rw [hi] at e2
        have e2 : (σ[i]?).join = some v := Option.some.inj e2
        have e2 : σ[i]? = some (some v) := by
          cases q : σ[i]? with
          | none => rw [q] at e2; cases e2
          | some o => rw [q] at e2; exact congrArg some e2
        obtain ⟨c1, c2, c3⟩ := S.cap (z, i) (zip_at e1 hi)
        have c4 := rel_cell (env := X.env) I.ok.kind c2 c3
        have c3 : (z, NameKind.free) ∈ scope.names := PySem.mem_of_lookup c3
        obtain ⟨m, hn, hl⟩ := I4.loc
        obtain ⟨u, r, lk⟩ := hl i z v c1 e2 (.inr (.inl c2))
        refine ⟨u, r, .inr ⟨.inl c4, ?_⟩⟩
        rcases lk with ⟨k, _⟩ | ⟨_, c, hc', z'⟩
        · exact absurd ((show X.env.scope.names.lookup z = some .local from k).symm.trans c2) (by decide)
        · obtain ⟨d, hd⟩ := Option.isSome_iff_exists.mp (clOf_has (env := X.env) scope.names [] (.inl c3))
          have := cl_in z d hd
          rw [hc'] at this
          cases this
          exact ⟨c, hd, z'⟩
  -- the loop
  have loop : codeAny (model X.prog X.w) X.A (.compLoop (.ListComp elt [⟨.Name x px, iter, [], 0⟩] scope pos) 0 (.ref it) (.ref s2.heap.objs.size) (compEnvC scope (clOf X.env scope.names []) s3.heap.objs.size X.env)) (PQ (.ref s2.heap.objs.size) s3.heap.objs.size) s4 := by
    have fpC : ∀ {H' : Hp}, (∀ b ∈ fp, H' b = none) → ∀ b ∈ fp, FpOk (Cx.comp X (x :: ys) scope s3.heap.objs.size s3 H3 fp) [] H' b := fun hn b hb =>
      ⟨hn b hb, (ok.exf b hb).1, ok.exfs b hb, .inl hb, (ok.exf b hb).2, (fun p hp => nomatch hp)⟩
    refine codeAny_loop rfl (fun n s' => ∃ i zs v H', Inv (Cx.comp X (x :: ys) scope s3.heap.objs.size s3 H3 fp) [] (v :: capV caps σ) H' s' ∧ tn i s'.heap ∧ (∀ b ∈ fp, H' b = none) ∧ W i n zs H') (fun n s5 z => ?_) m0 ⟨0, [], none, H3, Ic, T.keep _ _ _ t3 (fun b hb o e => by rw [e4]; exact kp b o e), hfp3, w0⟩
    obtain ⟨i, zs, v, H5, I5, t5, fr5, w5⟩ := z
    show wpAny _ _ ((compTurn _ 0 (.ref it) _ _).onRaise _) _ _ s5
    refine wpAny_noted ?_
    rw [compTurn_list1]
    refine wpAny_bind (wpAny_standAt (wpAny_bind ?_))
    obtain ⟨hacc, stop | go⟩ := step i n zs H5 w5
    · obtain ⟨stop, q⟩ := stop
      refine thn (T.done (Cx.comp X (x :: ys) scope s3.heap.objs.size s3 H3 fp) rfl rfl rfl hc i [] s5 _ H5 _ I5 (fpC fr5) t5 stop) fun r s6 ⟨hr, I6⟩ => ?_
      subst hr
      refine wpAny_pure (hPQ _ _ s6 H5 ?_ q ?_ I6.free ?_ Lne cne fun p hp z => ?_)
      · refine I3.call' I6.os I6.base I6.hok I6.bare fun b hb => ?_
        obtain ⟨_, g1, _, g3, g4, g5⟩ := f2 b hb
        exact ⟨g3, g1, g4, g5⟩
      · obtain ⟨m, hn, _⟩ := I6.loc
        exact ⟨m, hn⟩
      · exact I3.sz
      · exact Nat.ne_of_lt (Heap.lt_size (I3.pin p hp).1) z
    · obtain ⟨go, turn⟩ := go
      refine thn (T.item (Cx.comp X (x :: ys) scope s3.heap.objs.size s3 H3 fp) rfl rfl rfl hc i [] s5 _ H5 _ I5 (fpC fr5) t5 go) fun r s6 ⟨u, hr, h6⟩ => ?_
      subst hr
      refine wpAny_bind (thn h6 fun _ s7 ⟨y, H7, I7, r7, y7, t7, fr7⟩ => ?_)
      have I7' := I7.pinned (fpC fr7) (T.obj _ _ t7)
      have hg : PG (Cx.comp X (x :: ys) scope s3.heap.objs.size s3 H3 fp) (.Name x px) (gName 0) := pg_name S.nd rfl (.inl (lookup_relabel_local S.own)) (.inr (lookup_relabel_local S.own))
      refine wpAny_bind (wpAny_mono (hg _ s7 _ H7 y u (fun σ' H' => σ' = some y :: capV caps σ ∧ H' = H7) I7' r7 ⟨rfl, rfl⟩) (fun _ s8 z8 => ?_) fun _ _ f => f.elim)
      obtain ⟨σ8, H8, I8, e8, e8'⟩ := z8
      subst e8 e8'
      refine wpAny_bind (wpAny_bind (wpAny_mono (he _ _ _ _ _ s8 _ _ _ I8 (turn y _ y7)) (fun u9 s9 z9 => ?_) fun _ _ f => f.elim))
      obtain ⟨v9, H9, I9, r9, a9, l9, m9, hm9, w9⟩ := z9
      refine wpAny_bind (wpAny_mono (mt_append (X := Cx.comp X (x :: ys) scope s3.heap.objs.size s3 H3 fp) _ s9 _ H9 (.ref s2.heap.objs.size) [v9] _ [u9] (fun _ H' => H' = upd H9 s2.heap.objs.size (.lst (zs ++ [v9]))) I9 rfl (.cons r9 .nil) ⟨_, zs, v9, rfl, rfl, a9, l9, rfl⟩) (fun _ s10 z10 => ?_) fun _ _ f => f.elim)
      obtain ⟨_, H10, I10, _, e10⟩ := z10
      subst e10
      refine wpAny_pure (wpAny_pure ⟨rfl, m9, hm9, i + 1, zs ++ [v9], some y, _, I10.unpinned, T.keep _ _ _ t7 fun b hb o e => (I10.pin (b, o) (List.mem_append_right _ (List.mem_append_right _ (mem_pinsAt hb e)))).1, fun b hb => ?_, w9⟩)
      obtain ⟨o, e, _⟩ := T.obj _ _ t7 b hb
      exact (I10.pin (b, o) (List.mem_append_right _ (List.mem_append_right _ (mem_pinsAt hb e)))).2.1
  exact codeAny_compStart_list loop (T.self X.A 0 _ _ _ (T.keep _ _ _ t3 (fun b hb o e => by rw [e4]; exact kp b o e)) loop)
theorem pe_comp (S : CompScope X scope x ys caps) (hc : X.calm = true) (hi : PI X (.Name x px) iter wi) (he : ∀ C s H fp, PE (Cx.comp X (x :: ys) scope C s H fp) elt te) (hs : ∀ x, foldedSetIterable iter X.env x = pure x := by intro _; rfl) :
    PE X (.ListComp elt [⟨.Name x px, iter, [], 0⟩] scope pos) (tComp wi te caps) := by
  intro pins s σ H Q I h
  rw [eval_ListComp]
  refine wpAny_comprehension_free (use := none) rfl hs (closure_is (S.has I.ok)) S.kind S.names (thn (hi pins s σ H _ I h) fun v s1 h1 => thn h1 fun itv s2 h2 => ?_)
  obtain ⟨it, fp, tn, J, H2, rfl, I2, T, t0, f2, q⟩ := h2
  refine comp_run S hc he (Q := Q) I2 T t0 f2 q fun D C s' H' I' q' n' hC hz hL hcc hp => ?_
  obtain ⟨m, n'⟩ := n'
  exact ⟨m, n', fun h' sb => ⟨.ref D, H', I'.turned (it := C) (t' := s'.toks) (fun b o hb e => (sb.2 b hb).trans e) hC hL (.inr hz) hcc hp, rfl, q'⟩⟩
/-- name = [..] -/
def tSetComp (i : Nat) (wi : TI) (te : TE) (caps : List Nat) : TS := fun D σ H => tComp wi te caps σ H fun v H1 => D.nx (σ.set i (some v)) H1
theorem ps_setcomp {i : Nat} {y : Str} {py spos : Pos} (hN : X.N.Nodup) (hiy : X.N[i]? = some y) (hy : Loc X.env.scope y) (S : CompScope X scope x ys caps) (hc : X.calm = true) (hi : PI X (.Name x px) iter wi) (he : ∀ C s H fp, PE (Cx.comp X (x :: ys) scope C s H fp) elt te)
    (hsw : swapsWith (.ListComp elt [⟨.Name x px, iter, [], 0⟩] scope pos) (some (.Name y py)) spos.line X.env = pure true := by rfl) (hs : ∀ x, foldedSetIterable iter X.env x = pure x := by intro _; rfl)
    (hf : X.fn y = true ∨ X.env.scope.names.lookup y = some .local := by first | exact .inl rfl | exact .inr rfl | assumption) :
    PS X (.Assign [.Name y py] (.ListComp elt [⟨.Name x px, iter, [], 0⟩] scope pos) spos) (tSetComp i wi te caps) := by
  intro pins s σ H D I h
  rw [exec_Assign_Name_used _ _ _ _ hsw]
  refine wpAny_bind (wpAny_standAt (wpAny_bind ?_))
  show wpAny _ _ (do let _ ← comprehension (.ListComp elt [⟨.Name x px, iter, [], 0⟩] scope pos) scope X.env _ (newList []) false (eval iter X.env) (some (assign (.Name y py) X.env))) _ _ s
  refine wpAny_bind (wpAny_mono (wpAny_comprehension_free (use := some (assign (.Name y py) X.env)) (Q := fun _ s' => SP X pins D .next s') rfl hs (closure_is (S.has I.ok)) S.kind S.names (thn (hi pins s σ H _ I h) fun v s1 h1 => thn h1 fun itv s2 h2 => ?_)) (fun _ s' hq => wpAny_pure (wpAny_pure hq)) fun _ _ e => e)
  obtain ⟨it, fp, tn, J, H2, rfl, I2, T, t0, f2, q⟩ := h2
  refine comp_run S hc he (Q := fun v H1 => D.nx (σ.set i (some v)) H1) I2 T t0 f2 q fun Dl C s' H' I' q' n' hC hz hL hcc hp => ?_
  obtain ⟨m, n'⟩ := n'
  show wpAny _ _ (assign (.Name y py) X.env (.ref Dl)) _ _ s'
  refine wpAny_assign_Name (store_ok2 I' hN hiy hy (v := .ref Dl) rfl (fun s3 I3 sb3 => ?_) hf)
  obtain ⟨a, sb3, ha⟩ := sb3
  have hCa : C ≠ a := by
    rcases ha with rfl | ha
    · exact hL
    · exact (hcc _ _ ha).symm
  exact ⟨m, n'.sameBut sb3 hCa, fun h' sb => ⟨_, H', I3.turned (it := C) (t' := s3.toks) (fun b o hb e => (sb.2 b hb).trans e) hC hL (.inr hz) hcc hp, q'⟩⟩
end
end L2

namespace L2
open PySem PySem.Spec PyProof.Rows
/-- a comprehension over lo, lo + 1, .. whose element is worth f i and leaves the heap as it is -/
theorem comp_range {lo : Int} {n : Nat} {te : TE} {cs : St} {H1 : Hp} {Q : V → Hp → Prop} {D : Addr} (hD : H1 D = none) (f : Nat → V) (hn : n ≤ sizeLine)
    (step : ∀ i, i < n → ∀ H2, Same H1 H2 → ∀ Q' : VK, Q' (f i) H2 → te (some (.int (lo + i)) :: cs) H2 Q') (fin : Q (.ref D) (upd H1 D (.lst ((List.range n).map f)))) :
    CompR (Itr lo n) te cs Q H1 D := by
  refine ⟨fun i m ys H2 => m = n - i ∧ i ≤ n ∧ ys = (List.range i).map f ∧ H2 = upd H1 D (.lst ys), ⟨n, by simp, Nat.zero_le _, rfl, rfl⟩, ?_⟩
  rintro i m ys H2 ⟨rfl, hi, rfl, rfl⟩
  refine ⟨upd_same, ?_⟩
  have sm : ∀ o, Same H1 (upd H1 D o) := fun o b u e => by rw [upd_ne (ne_of_none e hD)]; exact e
  by_cases hlt : i < n
  · refine .inr ⟨hlt, fun x H3 y => ?_⟩
    obtain ⟨rfl, rfl⟩ := y
    refine step i hlt _ (sm _) _ ⟨upd_same, by rw [List.length_map, List.length_range]; omega, n - (i + 1), by omega, rfl, hlt, ?_, ?_⟩
    · rw [List.range_succ, List.map_append]; rfl
    · rw [upd_upd]
  · have e : i = n := by omega
    subst e
    exact .inl ⟨Nat.le_refl _, fin⟩
end L2

namespace L2
open PySem PySem.Spec PyProof.Rows
section
variable {P : Program} {w : World} {K : PySem.W.Frag} {mg : Str → Option Value} {base : Heap}
/-- a def whose exceptions may leave it -/
theorem Fun.okX {x qual : Str} {st : Stmt} {f : Addr} {fd : FuncData} {N ps : List Str} {k : Nat} {sp : Sp} (F : Fun K x qual st f fd) (S : FnScope N ps (defScope st)) (len : ∀ vs H Q E, sp vs H Q E → vs.length = ps.length)
    (hbody : ∀ (cdv : Value) (A : Around) (outer : List Env) (s : Shared) (H : Hp) (vs : List V) (Q : VK) (E : XK), Room k (A.deeper (envOfC qual (defScope st) s.heap.objs.size f cdv)) → sp vs H Q E →
      ∃ t, PSs (cxOf (CX1 P w) P w K mg base N qual (defScope st) f cdv A outer s H E) (defBody st) t ∧ t { nx := fun _ H' => Q .non H', rt := Q } (start N vs) H) : FnOk P w K mg base (CX1 P w) (k + 1) f fd ps sp := by
  obtain ⟨oc, od, kV, doc, pm, an, cdv, ct, osl, rfl, lk, hcd⟩ := F.ex
  exact fn_of lk hcd S len fun A outer s H vs Q E hr hsp => hbody cdv A outer s H vs Q E hr hsp
theorem FnOk.toX {CX : CXT} {k : Nat} {f : Addr} {fd : FuncData} {ps : List Str} {sp : Sp} (F : FnOk P w K mg base CX0 k f fd ps sp) : FnOk P w K mg base CX k f fd ps sp :=
  ⟨F.len, fun A outer s H args us vs Q E hr he hb hv hs => codeAny_mono (F.run A outer s H args us vs Q E hr he hb hv hs) fun r s' h => by
    cases r with
    | error e => exact False.elim h
    | ok fl => cases fl <;> exact h⟩
end
/-- no exception comes -/
theorem passesN {X : Cx} {P : Program} {w : World} : PassesR (CX1 P w) X (fun _ => E0) := by
  intro pins σ H s e s' _ hx
  obtain ⟨_, _, _, _, _, _, _, _, hE⟩ := hx
  exact hE.elim
theorem passes0 {X : Cx} {R : St → XK} : PassesR CX0 X R := fun _ _ _ _ _ _ _ h => h.elim
theorem PS.nox {X : Cx} {st : Stmt} {t : TS} (h : PS X.nox st t) : PS X st t := fun pins s σ H D I hw =>
  wpAny_mono (h pins s σ H D (I.wish _) hw) (fun _ _ z => z.unwish) fun _ _ z => z.elim

/-! ### tests -/
theorem ifT {c : Bool} {A B : Prop} (e : c = true) (h : A) : if c = true then A else B := by rw [if_pos e]; exact h
theorem ifF {c : Bool} {A B : Prop} (e : c = false) (h : B) : if c = true then A else B := by rw [if_neg (by rw [e]; decide)]; exact h
theorem QT {Q : VK} {b c : Bool} {H : Hp} (e : b = c) (k : Q (.bl c) H) : Q (.bl b) H := by rw [e]; exact k
theorem QI {Q : VK} {b c : Int} {H : Hp} (e : b = c) (k : Q (.int c) H) : Q (.int b) H := by rw [e]; exact k
/-! ### great ints -/
theorem log2_lt {n : Nat} {k : Nat} (h : n < 2 ^ k) (hk : 0 < k) : n.log2 < k := by
  by_cases h0 : n = 0
  · rw [h0, show Nat.log2 0 = 0 from rfl]; exact hk
  · exact (Nat.log2_lt h0).mpr h
def Big (i : Int) : Prop := i.natAbs < 2 ^ 8000
theorem mulOk_big {i j : Int} (hi : Big i) (hj : Big j) : IntMulOk i j := by
  have b : ∀ {i : Int}, Big i → Builtin.Int.intBits i ≤ 8000 := fun {i} h => by
    unfold Builtin.Int.intBits
    split
    · exact Nat.zero_le _
    · have := log2_lt (k := 8000) h (by decide)
      omega
  have b1 := b hi
  have b2 := b hj
  have h3 : Builtin.Int.intTooBig (Builtin.Int.intBits i + Builtin.Int.intBits j) = false := by
    unfold Builtin.Int.intTooBig
    refine decide_eq_false ?_
    have : (bitsLine : Int) = 134217728 := by decide
    omega
  unfold IntMulOk
  rw [h3, Bool.and_false]
  exact Bool.false_ne_true
section
variable {X : Cx}
theorem op_mulB : OpR X (binaryOp .Mult) (rI (fun i j => Big i ∧ Big j) fun i j => .int (i * j)) := opI fun _ _ _ _ _ _ _ hc q => mul_int q (mulOk_big hc.1 hc.2)
theorem op_fdivB : OpR X (binaryOp .FloorDiv) (rI (fun _ j => j ≠ 0 ∧ Big j) fun i j => .int (i.fdiv j)) := opI fun _ _ _ _ _ _ _ hc q =>
  floordiv_int hc.1 q (.inl (PyProof.noPylong_of_log2 (Nat.lt_of_lt_of_le (log2_lt (k := 8000) hc.2 (by decide)) (by decide))))
end

/-! ### isinstance -/
def clsV : V → Option Value
  | .ty T => some (.type T)
  | .ref C => some (.ref C)
  | _ => none
theorem clsV_is {c : V} {u t : Value} (r : RelV c u) (h : clsV c = some t) : u = t := by
  cases c with
  | ty T => cases r; exact Option.some.inj h
  | ref C => cases r; exact Option.some.inj h
  | _ => cases h
section
variable {X : Cx}
theorem call_isinst : CallR X (.builtin "isinstance") (fun xs H Q => ∃ x c t t' b, xs = [x, c] ∧ TyOf X.K H x t ∧ clsV c = some t' ∧ PySem.W.kitOne X.K t t' = some b ∧ Q (.bl b) H) := by
  intro pins s σ H xs us Q I r h
  obtain ⟨x, c, t, t', b, rfl, ty, hc, hk, q⟩ := h
  obtain ⟨u, u', rfl, r1, r2⟩ := vals2 r
  cases clsV_is r2 hc
  exact isinst_ok I r1 ty hk fun tk => ⟨.bl b, H, I.tok tk, rfl, q⟩
end

/-! ### == of tuples of flat values -/
def eqVs : List V → List V → Bool
  | [], [] => true
  | x :: xs, y :: ys => eqV x y && eqVs xs ys
  | _, _ => false
theorem eqVs_range : ∀ (xs ys : List V) (e : Nat → Bool), (∀ j x y, xs[j]? = some x → ys[j]? = some y → e j = eqV x y) → ((List.range (min xs.length ys.length)).all e && xs.length == ys.length) = eqVs xs ys
  | [], [], e, _ => rfl
  | [], _ :: _, e, _ => by simp [eqVs]
  | _ :: _, [], e, _ => by simp [eqVs]
  | x :: xs, y :: ys, e, h => by
    have ih := eqVs_range xs ys (fun j => e (j + 1)) fun j x y h1 h2 => h (j + 1) x y h1 h2
    have h0 : e 0 = eqV x y := h 0 x y rfl rfl
    show _ = (eqV x y && eqVs xs ys)
    rw [← ih, ← h0]
    have e1 : min (x :: xs).length (y :: ys).length = min xs.length ys.length + 1 := by simp only [List.length_cons]; omega
    rw [e1, List.range_succ_eq_map, List.all_cons, List.all_map]
    have e2 : ((x :: xs).length == (y :: ys).length) = (xs.length == ys.length) := by simp only [List.length_cons]; rw [Bool.eq_iff_iff]; simp
    rw [e2, Bool.and_assoc]
    rfl
/-- the answer that two lists of flat items give -/
def rEqT (K : PySem.W.Frag) : R2 := fun x y H Q => ∃ a b xs ys, x = .ref a ∧ y = .ref b ∧ SqT K H a xs ∧ SqT K H b ys ∧ xs.all flatV = true ∧ ys.all flatV = true ∧ Q (.bl (eqVs xs ys)) H
/-- .. != -/
def rNeT (K : PySem.W.Frag) : R2 := fun x y H Q => ∃ a b xs ys, x = .ref a ∧ y = .ref b ∧ SqT K H a xs ∧ SqT K H b ys ∧ xs.all flatV = true ∧ ys.all flatV = true ∧ Q (.bl (!eqVs xs ys)) H
theorem flat_at : ∀ {xs : List V} {j : Nat} {x : V}, xs.all flatV = true → xs[j]? = some x → flatV x = true
  | _ :: _, 0, _, h, e => by
    rw [List.all_cons, Bool.and_eq_true] at h
    cases e
    exact h.1
  | _ :: _, j + 1, _, h, e => by
    rw [List.all_cons, Bool.and_eq_true] at h
    exact flat_at h.2 e
section
variable {X : Cx}
theorem op_neT (hu : X.A.units < cLine) : OpR X (compareOp .NotEq) (rNeT X.K) := by
  intro pins s σ H x y v u Q I rx ry h
  obtain ⟨a, b, xs, ys, rfl, rfl, h1, h2, f1, f2, q⟩ := h
  cases rx
  cases ry
  obtain ⟨i1, v1, t1, _⟩ := I.tuple h1
  obtain ⟨i2, v2, t2, _⟩ := I.tuple h2
  have l1 := v1.length
  have l2 := v2.length
  refine SeqAt.RcNeAt.tuples (e := fun j => match xs[j]?, ys[j]? with | some x, some y => eqV x y | _, _ => true) (show s.heap.IsTuple a i1.toArray from t1) (show s.heap.IsTuple b i2.toArray from t2) hu (fun j h1 h2 => ?_) _ _ _ _ ?_
  · have b1 : j < i1.length := by simpa using h1
    have b2 : j < i2.length := by simpa using h2
    have e1 : xs[j]? = some (xs[j]'(by omega)) := List.getElem?_eq_getElem _
    have e2 : ys[j]? = some (ys[j]'(by omega)) := List.getElem?_eq_getElem _
    obtain ⟨u1, g1, r1⟩ := v1.get e1
    obtain ⟨u2, g2, r2⟩ := v2.get e2
    rw [List.getElem?_eq_getElem b1] at g1
    rw [List.getElem?_eq_getElem b2] at g2
    have w1 : i1.toArray[j] = u1 := by simpa using Option.some.inj g1
    have w2 : i2.toArray[j] = u2 := by simpa using Option.some.inj g2
    rw [w1, w2]
    simp only [e1, e2]
    exact eqAt_V r1 r2 (flat_at f1 e1) (flat_at f2 e2)
  · rw [List.size_toArray, List.size_toArray, ← l1, ← l2, eqVs_range xs ys _ (fun j x y h1 h2 => by simp only [h1, h2])]
    exact ⟨.bl (!eqVs xs ys), H, I, rfl, q⟩
theorem op_eqT (hu : X.A.units < cLine) : OpR X (compareOp .Eq) (rEqT X.K) := by
  intro pins s σ H x y v u Q I rx ry h
  obtain ⟨a, b, xs, ys, rfl, rfl, h1, h2, f1, f2, q⟩ := h
  cases rx
  cases ry
  obtain ⟨i1, v1, t1, _⟩ := I.tuple h1
  obtain ⟨i2, v2, t2, _⟩ := I.tuple h2
  have l1 := v1.length
  have l2 := v2.length
  refine SeqAt.eq_tupleAt (e := fun j => match xs[j]?, ys[j]? with | some x, some y => eqV x y | _, _ => true) (show s.heap.IsTuple a i1.toArray from t1) (show s.heap.IsTuple b i2.toArray from t2) hu (fun j h1 h2 => ?_) ?_
  · have b1 : j < i1.length := by simpa using h1
    have b2 : j < i2.length := by simpa using h2
    have e1 : xs[j]? = some (xs[j]'(by omega)) := List.getElem?_eq_getElem _
    have e2 : ys[j]? = some (ys[j]'(by omega)) := List.getElem?_eq_getElem _
    obtain ⟨u1, g1, r1⟩ := v1.get e1
    obtain ⟨u2, g2, r2⟩ := v2.get e2
    rw [List.getElem?_eq_getElem b1] at g1
    rw [List.getElem?_eq_getElem b2] at g2
    have w1 : i1.toArray[j] = u1 := by simpa using Option.some.inj g1
    have w2 : i2.toArray[j] = u2 := by simpa using Option.some.inj g2
    rw [w1, w2]
    simp only [e1, e2]
    exact eqAt_V r1 r2 (flat_at f1 e1) (flat_at f2 e2)
  · rw [List.size_toArray, List.size_toArray, ← l1, ← l2, eqVs_range xs ys _ (fun j x y h1 h2 => by simp only [h1, h2])]
    exact ⟨.bl (eqVs xs ys), H, I, rfl, q⟩
end
end L2

set_option maxHeartbeats 4000000
namespace L2
open PySem PySem.Spec PyProof.Rows
/-! ### isinstance of an exception of an own class -/
section
variable {prog : Program} {w : World} {A : Around} {E : Value → Shared → Prop} {s : Shared} {K : PySem.W.Frag} {x D : Addr} {ox : Obj} {od : Option Obj}
theorem exc_class_attr {Q : Option Value → Shared → Prop} (X : K.In s.heap) (I : PySem.W.InstAt s.heap x ox D od) (hga : PySem.W.findIn K (.ref D) "__getattribute__" = some (some (.builtin "BaseException.__getattribute__")))
    (hgt : PySem.W.findIn K (.ref D) "__getattr__" = some none) (ha : PySem.W.findIn K (.ref D) "__class__" = some (some (.builtin "object.__class__"))) (hm : PySem.W.mroIn K D (.type "object") = some true) (hsb : PySem.W.subIn K (.ref D) (.type "BaseException") = some true)
    (h : Q (some (.ref D)) { s with toks := s.toks + 1 }) : wpAny (model prog w) A (getAttr? (.ref x) "__class__") Q E s := by
  obtain ⟨hh, g, d, t, os⟩ := s
  have L0 := I.type (M := model prog w)
  have L1 := PySem.W.looks_findIn (M := model prog w) X hga
  have L2 := PySem.W.looks_findIn (M := model prog w) X hgt
  have L4 := PySem.W.looks_subIn (M := model prog w) X hsb
  have f3 := F.excAttr_ValueError.ga.bind (.ref x)
  have hx2 : (Value.builtin "BaseException.__getattribute__" == Value.builtin "object.__getattribute__") = false := by decide +kernel
  have hx1 : (onTheHeap (Value.ref D) && Value.builtin "BaseException.__getattribute__" == Value.builtin "object.__getattribute__") = false := by rw [hx2]; rfl
  have hx0 : (false && onTheHeap (Value.builtin "BaseException.__getattribute__")) = false := rfl
  unfold getAttr? getAttrBy? getAttrBy
  repeat (any_goals (first | assumption | with_reducible refine L0.at ?_ | with_reducible refine L1.at ?_ | with_reducible refine L2.at ?_ | wp_step))
  refine codeAny_call_builtin F.excAttr_ValueError.ga.plain F.entry_bexc_ga ?_
  have hk : builtinKind "BaseException.__getattribute__" = some .slot := by decide +kernel
  have hsp : splitId "BaseException.__getattribute__" = some ("BaseException", "__getattribute__") := by decide +kernel
  have har := F.args_bexc_ga (.ref x) (.str "__class__" t)
  simp only [checkBuiltinCall, hk, hsp]
  refine wpAny_bind ?_
  unfold isInstance
  have L3 := PySem.W.looks_findIn (M := model prog w) X ha
  have f5 := F.typeOf_object_class
  have f6 := F.slot_gs_get.lookup
  have f7 := F.slot_gs_set.lookup
  have hg : ∀ {R : Result → Shared → Prop} {A : Around}, R (.ok (.ret (.ref D))) ⟨hh, g, d, t + 1, os⟩ → codeAny (model prog w) A (.call (.builtin "getset_descriptor.__get__") ⟨[.builtin "object.__class__", .ref x, .ref D], []⟩) R ⟨hh, g, d, t + 1, os⟩ := fun hr => PySem.W.class_get (s := ⟨hh, g, d, t + 1, os⟩) X I hm hr
  repeat (any_goals (first | assumption | with_reducible refine L0.at ?_ | with_reducible refine L4.at ?_ | with_reducible refine L3.at ?_ | wp_step))
  refine hg ?_
  repeat (any_goals (first | assumption | wp_step))
end
/-- the class at C, for isinstance -/
structure ExcTy (K : PySem.W.Frag) (C : Addr) : Prop where
  cls : PySem.W.isClsIn K C = true
  ga : PySem.W.findIn K (.ref C) "__getattribute__" = some (some (.builtin "BaseException.__getattribute__"))
  gt : PySem.W.findIn K (.ref C) "__getattr__" = some none
  cl : PySem.W.findIn K (.ref C) "__class__" = some (some (.builtin "object.__class__"))
  ob : PySem.W.mroIn K C (.type "object") = some true
  be : PySem.W.subIn K (.ref C) (.type "BaseException") = some true
theorem ExcTy.data {K : PySem.W.Frag} {C : Addr} (c : ExcTy K C) : ∃ cl dd cd sl, K.lookup C = some ⟨cl, dd, .cls cd, sl⟩ := by
  have q := c.cls
  unfold PySem.W.isClsIn PySem.W.clsIn at q
  split at q
  · rename_i cl dd cd sl ho
    exact ⟨cl, dd, cd, sl, ho⟩
  · cases q
theorem kitx_exc {K : PySem.W.Frag} {x C : Addr} {ox : Obj} (c : ExcTy K C) : PySem.W.KitX K (.ref x) (.ref C) (fun h => ∃ od, PySem.W.InstAt h x ox C od) where
  ty := fun _ _ _ ⟨_, I⟩ => I.type
  it := fun M h X _ => by
    obtain ⟨cl, dd, cd, sl, ho⟩ := c.data
    intro A' Q' E' s' k q
    unfold isType loadHead
    exact wpAny_bind (wpAny_loadPart (k _ _ (X _ _ ho)) (wpAny_pure q))
  ne := fun h tp dd its n sl X htp => by
    obtain ⟨cl, dd', cd, sl', ho⟩ := c.data
    refine Bool.eq_false_iff.mpr fun q => ?_
    have e : C = tp := Value.ref.inj (beq_iff_eq.mp q)
    rw [← e, X _ _ ho] at htp
    cases htp
  ca := fun X ⟨_, I⟩ k => exc_class_attr X I c.ga c.gt c.cl c.ob c.be k
/-- the exception at x stands in the suite's pins: of class C, with the dict dx -/
def ExcAt (X : Cx) (x C : Addr) (dx : Option Addr) : Prop := ∃ (o : Obj) (vs : Array Value), (x, ({ o with data := .fields vs } : Obj)) ∈ X.pn ∧ vs[2]? = some .none ∧ o.cls = .ref C ∧ o.dict = dx
def rIsE (K : PySem.W.Frag) (x C : Addr) (dx : Option Addr) : List V → Hp → VK → Prop := fun xs H Q => ∃ t t' b, xs = [.ref x, t] ∧ (∀ d, dx = some d → ∃ o, H d = some o) ∧ clsV t = some t' ∧ PySem.W.kitOne K (.ref C) t' = some b ∧ Q (.bl b) H
section
variable {X : Cx}
theorem call_isinstE {x C : Addr} {dx : Option Addr} (e : ExcAt X x C dx) (c : ExcTy X.K C) : CallR X (.builtin "isinstance") (rIsE X.K x C dx) := by
  intro pins s σ H xs us Q I r h
  obtain ⟨t, t', b, rfl, hdx, hc, hk, q⟩ := h
  obtain ⟨u, u', rfl, r1, r2⟩ := vals2 r
  cases clsV_is r2 hc
  cases r1
  obtain ⟨⟨oc, odc, odt, osl⟩, vs, hp, _, ho, hd⟩ := e
  have hx := (I.pin _ (List.mem_append_left _ hp)).1
  have J : ∃ od, PySem.W.InstAt s.heap x ⟨oc, odc, .fields vs, osl⟩ C od := by
    cases odc with
    | none => exact ⟨none, hx, ho, rfl, trivial⟩
    | some d =>
      obtain ⟨ho', e1⟩ := hdx d hd.symm
      obtain ⟨ob, e2⟩ := ObjOk.here (I.hok d ho' e1)
      exact ⟨some ob, hx, ho, rfl, e2⟩
  exact PySem.W.kia_one (kitx_exc c) I.kIn J hk (fun z => nomatch z) fun tk => ⟨.bl b, H, I.tok tk, rfl, q⟩
end
/-! ### a name goes -/
section
variable {X : Cx} {pins : List (Addr × Obj)} {σ : St} {H : Hp} {s : Shared} {M : Model} {A : Around} {E : Value → Shared → Prop} {Q : Unit → Shared → Prop} {i : Nat} {n : Str}
theorem forget_ok {v : V} (I : Inv X pins σ H s) (hN : X.N.Nodup) (hi : X.N[i]? = some n) (hk : X.env.scope.names.lookup n = some .local) (hv : σ[i]? = some (some v)) (h : ∀ s', Inv X pins (σ.set i none) H s' → Q () s') : wpAny M A (unbindName X.env n) Q E s := by
  obtain ⟨m, hn, hl⟩ := id I.loc
  obtain ⟨u, r, lk⟩ := hl i n v hi hv (.inl hk)
  have hm : m n = some u := by
    rcases lk with ⟨_, e⟩ | ⟨k, _⟩
    · exact e
    · rcases k with k | k
      · exact absurd ((show X.env.scope.names.lookup n = some .cell from k).symm.trans hk) (by decide)
      · exact absurd ((show X.env.scope.names.lookup n = some .free from k).symm.trans hk) (by decide)
  have hcls : (X.env.scope.kind == .class || (X.env.scope.kind == .module && X.env.locals != X.env.globals)) = false := by rw [I.ok.kind]; rfl
  obtain ⟨oL, _, _, hoL, _⟩ := id hn
  refine wpAny_unbindName_local hk hn hm hcls fun h' u' hn' hs => h _ ⟨I.ok, I.os, I.bare, ⟨fun b o e n hb hx => ?_, fun b o e n hb hx => ?_, I.base.free, fun b o e hx => ?_, I.base.tups, I.base.frzs, I.base.tbls⟩, ⟨_, hn', fun j y v' e1 e2 e3 => ?_⟩, fun y c e => ?_, I.free, I.freeC, fun p hp => ?_, fun b ob e => ?_, by simpa using I.len⟩
  · exact (hs.2 b (Nat.ne_of_lt (Nat.lt_of_lt_of_le (Heap.lt_size e) I.ok.above))).trans (I.base.keep b o e n hb hx)
  · obtain ⟨sl, e1⟩ := I.base.slot b o e n hb hx
    exact ⟨sl, (hs.2 b (Nat.ne_of_lt (Nat.lt_of_lt_of_le (Heap.lt_size e) I.ok.above))).trans e1⟩
  · obtain ⟨o', e1⟩ := I.base.there b o e hx
    exact ⟨o', (hs.2 b (Nat.ne_of_lt (Nat.lt_of_lt_of_le (Heap.lt_size e) I.ok.above))).trans e1⟩
  · by_cases hj : j = i
    · subst hj
      have hlt : j < σ.length := (List.getElem?_eq_some_iff.mp hv).1
      rw [List.getElem?_set_self hlt] at e2
      cases e2
    · rw [List.getElem?_set_ne (Ne.symm hj)] at e2
      obtain ⟨u2, r2, q⟩ := hl j y v' e1 e2 e3
      refine ⟨u2, r2, ?_⟩
      rcases q with ⟨k, e⟩ | ⟨k, c, e, z⟩
      · refine .inl ⟨k, ?_⟩
        have : y ≠ n := fun e => hj (nodup_ix hN e1 (e ▸ hi))
        simp [this, e]
      · exact .inr ⟨k, c, e, z.sameBut hs (I.cne y c e)⟩
  · obtain ⟨w', z⟩ := I.cell y c e
    exact ⟨w', z.sameBut hs (I.cne y c e)⟩
  · obtain ⟨e, n, ne, nf, d⟩ := I.pin p hp
    exact ⟨(hs.2 p.1 ne).trans e, n, ne, nf, d⟩
  · refine (I.hok b ob e).stay (fun c w' hc q => (hs.2 c ?_).trans q) (fun _ q => q) fun _ _ q => q
    rintro rfl
    have fr := I.free
    rcases hc with hc | hc
    · rw [hc, e] at fr; cases fr
    · rw [hc] at fr; cases fr
/-- behind the suite: name = None, then the name goes -/
theorem name_goes {pos : Pos} (I : Inv X pins σ H s) (hN : X.N.Nodup) (hi : X.N[i]? = some n) (hk : X.env.scope.names.lookup n = some .local) (h : ∀ s', Inv X pins (σ.set i none) H s' → Q () s') :
    wpAny M A (do bindName X.env n .none; unbindBehindTheSuite X.env n pos) Q E s := by
  have hlt : i < σ.length := by rw [I.len]; exact (List.getElem?_eq_some_iff.mp hi).1
  refine wpAny_bind (wpAny_bindName (store_ok I hN hi (.inl hk) (v := .non) rfl (fun s1 I1 => ?_) (.inr hk)))
  unfold unbindBehindTheSuite
  refine wpAny_onRaise (forget_ok I1 hN hi hk (v := .non) (by rw [List.getElem?_set_self hlt]) fun s2 I2 => h s2 ?_)
  rw [List.set_set] at I2
  exact I2
end
/-! ### try: body, except D as n: suite -/
/-- what is wanted behind the suite: the name is gone -/
def goesD (i : Nat) (D : Ends) : Ends := ⟨fun σ H => D.nx (σ.set i none) H, D.rt, fun σ H => D.bk (σ.set i none) H, fun σ H => D.ct (σ.set i none) H⟩
def tTryE (K : PySem.W.Frag) (D : Addr) (i : Nat) (CC : Addr → Option Addr → Prop) (tb : (St → XK) → TS) (ts : Addr → Addr → Option Addr → TS) : TS := fun Dn σ H => ∃ R : St → XK, tb R Dn σ H ∧
  ∀ σ' cls od H', R σ' cls od H' → ∃ C, cls = .ref C ∧ CC C od ∧ PySem.W.subIn K (.ref C) (.ref D) = some true ∧ ∀ x, H' x = none → ts x C od (goesD i Dn) (σ'.set i (some (.ref x))) H'
section
variable {X : Cx} {body : List Stmt} {D : Addr} {dn n : Str} {i : Nat} {b₀ : Stmt} {suite : List Stmt} {pos hpos np : Pos} {tb : (St → XK) → TS} {ts : Addr → Addr → Option Addr → TS} {bmB' : List Value} {newId' : String}
theorem ps_tryE (CC : Addr → Option Addr → Prop) (hN : X.N.Nodup) (hi : X.N[i]? = some n) (hk : X.env.scope.names.lookup n = some .local) (hc : X.calm = true) (hst : X.stack = X.env :: X.outer) (hf : X.env.frame = some X.env.locals) (d : ExcCls X.K D bmB' newId') (hbe : bmB'.contains (.type "BaseException") = true) (hg : Gl X dn) (hm : X.mg dn = some (.ref D))
    (hb : ∀ (R : St → XK) (pins : List (Addr × Obj)), PSs (Cx.tryC X R pins) body (tb R))
    (hs : ∀ (x C : Addr) (od : Option Addr) (pn : List (Addr × Obj)), CC C od → ExcAt (Cx.suite X x pn) x C od → PSs (Cx.suite X x pn) (b₀ :: suite) (ts x C od)) (hdb : (dn == ("__debug__" : Str)) = false := by decide) :
    PS X (.Try body [.ExceptHandler (some (.Name dn np)) (some n) (b₀ :: suite) hpos] [] [] pos) (tTryE X.K D i CC tb ts) := by
  intro pins s σ H Dn I h
  obtain ⟨R, h1, h2⟩ := h
  refine wpAny_Try_except (wpAny_mono (hb R pins [] s σ H Dn (Inv.pnsC I _) h1) (fun fl s1 z => ?_) fun e s1 z => ?_)
  · have z' : SP X pins Dn fl s1 := SP.unpnsC z
    cases fl with
    | next => exact wpAny_execs_nil z'
    | brk => exact z'
    | cont => exact z'
    | ret u => exact z'
  · obtain ⟨pins', σ', H1, s0, I0, hx⟩ := z
    obtain ⟨x, o, H', B, rfl, os, bare, F, hE⟩ := hx
    have I0 : Inv X pins σ' H1 s0 := Inv.unpnsC (E := X.xe) I0
    obtain ⟨C, ec, hcc, hu, hts⟩ := h2 σ' _ _ H' hE
    have hfr : X.A.frames = some (X.env :: X.outer) := by rw [← hst]; exact I0.ok.frames
    refine fl_on (B := B) hfr hf (by rw [← hst]; exact F.fly) fun h4 f4 u4 => ?_
    refine fl_land f4 fun h5 f5 u5 => ?_
    have F5 := F.on (by rw [hst]; exact f5) (u4.trans u5)
    have I5 : Inv X pins σ' H' { s1 with heap := h5 } := F5.back I0 os bare
    obtain ⟨v5, _, _, _, hx5, _⟩ := f5.2.2.2
    refine wpAny_handleBy_cons (codeAny_handlers_test (ld_glob (X := Cx.suite X x (X.pn ++ pins)) (Inv.suiteN I5 x) hg hm ?_ hdb)) (by intro q; cases q)
    refine exc_matches I5.kIn d hbe hu hx5 ec (codeAny_handlers_suite_as ?_)
    refine fl_land f5 fun h6 f6 u6 => ?_
    have F6 := F5.on (by rw [hst]; exact f6) u6
    have I6 : Inv X pins σ' H' { s1 with heap := h6 } := F6.back I0 os bare
    obtain ⟨vs, hv2, J⟩ := suite_at I6 hst hf F6
    refine store_ok (X := Cx.suite X x (X.pn ++ pins ++ [(x, { o with data := .fields vs })])) J hN hi (.inl hk) (v := .ref x) rfl (fun s7 I7 => ?_) (.inr hk)
    refine wpAny_mono (hs x C o.dict _ hcc ⟨o, vs, List.mem_append_right _ List.mem_cons_self, hv2, ec, rfl⟩ [] s7 _ H' (goesD i Dn) I7 (hts x F6.nx)) (fun fl s8 z => ?_) fun _ _ z => z.elim
    cases fl with
    | next => obtain ⟨a, b, I8, q⟩ := z; exact name_goes (Inv.unsuiteC I8 I0.ok.hd) hN hi hk fun s9 I9 => ⟨_, b, I9, q⟩
    | brk => obtain ⟨a, b, I8, q⟩ := z; exact name_goes (Inv.unsuiteC I8 I0.ok.hd) hN hi hk fun s9 I9 => ⟨_, b, I9, q⟩
    | cont => obtain ⟨a, b, I8, q⟩ := z; exact name_goes (Inv.unsuiteC I8 I0.ok.hd) hN hi hk fun s9 I9 => ⟨_, b, I9, q⟩
    | ret u => obtain ⟨v, a, b, I8, r, q⟩ := z; exact name_goes (Inv.unsuiteC I8 I0.ok.hd) hN hi hk fun s9 I9 => ⟨v, _, b, I9, r, q⟩
end
/-! ### any, all of a list of truths -/
theorem entry_unchain : entryFor table "proto.unchain" = some Builtin.«proto.unchain» := entryFor_of_tree (by kernel_rfl)
section
variable {prog : Program} {w : World} {A : Around} {E : Value → Shared → Prop} {s : Shared}
theorem next_endH {it l x : Addr} {i : Nat} {items : Array Value} {ox : Obj} {xs : Array Value} {Q : Option Value → Shared → Prop} (hh : A.handled = some (.ref x)) (hit : s.heap.IsListIter it l i) (hl : s.heap.IsList l items) (hi : items[i]? = none)
    (hxo : s.heap.get? x = some ox) (hxd : ox.data = .fields xs) (hx2 : xs[2]? = some .none) (hne : x ≠ it) (hQ : ∀ h', Heap.ExtBut it s.heap h' → Q none { s with heap := h' }) : wpAny (model prog w) A (pyNext (.ref it)) Q E s := by
  obtain ⟨o, ho, hc, hd⟩ := id hit
  obtain ⟨ol, hol, _, nl, hdl⟩ := hl
  unfold pyNext
  refine wpAny_bind (wpAny_attempt (wpAny_callSpecial?_slot (name := Str.ofString "__next__") hit.typeIs slot_listiter_next (wpAny_call_entry slot_listiter_next hit.typeIs entry_listiter_next ?_ (args_listiter_next _))))
  show wpAny _ _ (field (.ref it) 0 >>= _) _ _ s
  refine wpAny_bind (wpAny_field ho hd (x := .ref l) rfl ?_)
  show wpAny _ _ (if (Value.ref l == Value.none) = true then _ else _) _ _ s
  rw [if_neg (show ¬ ((Value.ref l == Value.none) = true) by simp)]
  show wpAny _ _ (field (.ref it) 1 >>= _) _ _ s
  refine wpAny_bind (wpAny_field ho hd (x := .int i 0) rfl ?_)
  show wpAny _ _ (seqItems? (.ref l) >>= _) _ _ s
  refine wpAny_bind (wpAny_seqItems hol hdl ?_)
  simp only [Int.toNat_natCast, hi]
  refine wpAny_bind (wpAny_rule (wpAny_bind (wpAny_setField ho hd (by simp) ?_)))
  show wpAny _ _ (newExc (.type "StopIteration") [] >>= raiseNew) _ _ _
  refine wpAny_bind ?_
  simp only [newExc, newTuple]
  refine wpAny_bind (wpAny_newObj_type ?_ (by size_fits))
  refine wpAny_bind (m := firstArgMember _ _) (wpAny_of_eq (a := Value.none) (by first | rfl | (simp only [firstArgMember]; rfl)) ?_)
  refine wpAny_newObj_type ?_ (by size_fits)
  have hlx := Heap.lt_size hxo
  generalize hg1 : s.heap.update it (Obj.mapFields fun x => x.setIfInBounds 0 Value.none) = g1
  have z1 : g1.objs.size = s.heap.objs.size := by rw [← hg1, Heap.size_after_update]
  have hx1 : g1.get? x = some ox := by rw [← hg1, Heap.get?_update_other _ _ (Ne.symm hne)]; exact hxo
  unfold raiseNew
  refine wpAny_bind (wpAny_handled ?_)
  rw [show A.in1.handled = some (.ref x) from hh]
  dsimp only
  generalize hg2 : g1.push { cls := Value.type "tuple", data := Data.seq #[] } = g2
  have z2 : g2.objs.size = g1.objs.size + 1 := by rw [← hg2, Heap.size_push]
  have hx2' : g2.get? x = some ox := by rw [← hg2]; exact Heap.get?_push_of_some _ hx1
  have nx : x ≠ g2.objs.size := Nat.ne_of_lt (Heap.lt_size hx2')
  rw [if_pos (show (Value.ref x != Value.ref g2.objs.size) = true by simpa using nx)]
  have hrec : ∃ rs : Array Value, 2 < rs.size ∧ (#[Value.ref g1.objs.size, Value.none, Value.none, Value.none, Value.bool false, Value.none] ++ ownMembersOf (Value.type "StopIteration") []) = rs := ⟨_, by simp [Array.size_append]; omega, rfl⟩
  obtain ⟨rs, hrs, ers⟩ := hrec
  rw [ers]
  generalize hob : ({ cls := Value.type "StopIteration", data := Data.fields rs } : Obj) = ob
  have hx3 : (g2.push ob).get? x = some ox := Heap.get?_push_of_some _ hx2'
  refine wpAny_bind (wpAny_holding (wpAny_runValue (codeAny_builtin entry_unchain ?_)))
  show wpAny _ _ (field (.ref x) 2 >>= _) _ _ _
  refine wpAny_bind (wpAny_field hx3 hxd hx2 ?_)
  rw [if_pos (by rfl)]
  refine wpAny_pure ?_
  show wpAny _ _ (setField (.ref g2.objs.size) 2 (.ref x) >>= _) _ _ _
  have hn3 : (g2.push ob).get? g2.objs.size = some ob := Heap.get?_push_size _ (by rw [← hob]; rfl)
  refine wpAny_bind (wpAny_setField hn3 (by rw [← hob]) hrs ?_)
  refine wpAny_throw ?_
  have hd4 : (Obj.mapFields (fun y => y.setIfInBounds 2 (Value.ref x)) ob).isFreed = false := by rw [← hob]; rfl
  have hn4 := Heap.get?_update_self (Obj.mapFields fun y => y.setIfInBounds 2 (Value.ref x)) hn3 hd4
  have hc4 : (Obj.mapFields (fun y => y.setIfInBounds 2 (Value.ref x)) ob).cls = .type "StopIteration" := by rw [← hob]; rfl
  have fs : isSubtype (.type "StopIteration") (.type "StopIteration") = pure true := by rw [isSubtype_type]; kernel_rfl
  have ext : Heap.ExtBut it s.heap ((g2.push ob).update g2.objs.size (Obj.mapFields fun y => y.setIfInBounds 2 (Value.ref x))) := fun b u nb e => by
    have e1 : g1.get? b = some u := by rw [← hg1, Heap.get?_update_other _ _ (Ne.symm nb)]; exact e
    have e2 : g2.get? b = some u := by rw [← hg2]; exact Heap.get?_push_of_some _ e1
    rw [Heap.get?_update_other _ _ (Nat.ne_of_gt (Heap.lt_size e2))]
    exact Heap.get?_push_of_some _ e2
  unfold isInstance
  repeat (first | (with_reducible refine wpAny_loadPart_at hn4 ?_; rw [hc4]) | wp_step)
  exact hQ _ ext
/-- a list's iterator within an except suite -/
theorem walks_listH {x : Addr} {ox : Obj} {xs : Array Value} (hh : A.handled = some (.ref x)) (hxd : ox.data = .fields xs) (hx2 : xs[2]? = some .none) (I ax : Addr) (hne : ax ≠ I) (hxI : x ≠ I) (items : Array Value) :
    Walks prog w A I [I, ax, x] [I] items.size (fun i v => items[i]? = some v) (fun i h => (h.IsListIter I ax i ∧ h.IsList ax items) ∧ h.get? x = some ox) where
  sub := fun b hb => by simp at hb; simp [hb]
  frame := fun _ _ _ st hk => ⟨⟨st.1.1.at fun o e => hk I (by simp) o e, st.1.2.at fun o e => hk ax (by simp) o e⟩, hk x (by simp) _ st.2⟩
  item := fun i s Q E hi st hQ => by
    refine wpAny_pyNext_list_item st.1.1 st.1.2 (x := items[i]) (by simp [hi]) fun h' hit' hs' => ?_
    exact hQ _ h' s.toks (by simp [hi]) ⟨⟨hit', st.1.2.extBut hs'.extBut hne⟩, hs'.extBut x _ hxI st.2⟩ fun b o hb e => hs'.extBut b o (fun h => hb (by simp [h])) e
  done := fun s Q E st hQ => next_endH hh st.1.1 st.1.2 (by simp) st.2 hxd hx2 hxI fun h' he' => hQ h' s.toks fun b o hb e => he' b o (fun h => hb (by simp [h])) e
  self := fun _ _ _ _ st hQ => wpAny_pyIter_listiter st.1.1 hQ
end

theorem range_any (bs : List Bool) : (List.range bs.length).any (fun i => bs.getD i false) = bs.any id := by
  induction bs with
  | nil => rfl
  | cons b bs ih =>
    rw [List.length_cons, List.range_succ_eq_map, List.any_cons, List.any_map, List.any_cons, ← ih]
    rfl
theorem vals_bl : ∀ {bs : List Bool} {us : List Value}, Vals (bs.map V.bl) us → us = bs.map Value.bool
  | [], _, r => by cases r; rfl
  | b :: bs, _, r => by
    cases r with
    | cons h t =>
      cases h
      rw [vals_bl t]
      rfl
theorem truth_bl {prog : Program} {w : World} {A : Around} {bs : List Bool} : TruthOf prog w A (fun i v => (bs.map Value.bool).toArray[i]? = some v) (fun i => bs.getD i false) := by
  intro i v s Q E h q
  have h' : (bs.map Value.bool)[i]? = some v := by simpa using h
  rw [List.getElem?_map] at h'
  cases e : bs[i]? with
  | none => rw [e] at h'; cases h'
  | some b =>
    rw [e] at h'
    cases h'
    have q' : Q b s := by
      have eb : bs.getD i false = b := by rw [List.getD_eq_getElem?_getD, e]; rfl
      exact eb ▸ q
    exact wpAny_truthy_bool q'
def rAny (K : PySem.W.Frag) : List V → Hp → VK → Prop := fun xs H Q => ∃ (p : Addr) (bs : List Bool), xs = [.ref p] ∧ SqL K H p (bs.map V.bl) ∧ Q (.bl (bs.any id)) H
section
variable {X : Cx}
theorem call_any (hc : X.calm = true) : CallR X (.builtin "any") (rAny X.K) := by
  intro pins s σ H xs us Q I r h
  obtain ⟨p, bs, rfl, hq, q⟩ := h
  obtain ⟨u, rfl, r1⟩ := vals1 r
  cases r1
  obtain ⟨its, rv, pl, hz⟩ := I.list hq
  have eits := vals_bl rv
  subst eits
  refine call_any_walk (wpAny_pyIter_list pl.isList ?_)
  have lp : p < s.heap.objs.size := by obtain ⟨o, e, _⟩ := pl.isList; exact Heap.lt_size e
  refine ⟨s.heap.objs.size, _, _, _, _, _, fun i => bs.getD i false, rfl, Walks.list (show X.A.in1.handled = none from I.ok.hd hc) s.heap.objs.size p (Nat.ne_of_lt lp) (bs.map Value.bool).toArray, ⟨⟨_, Heap.get?_push_size _ rfl, rfl, rfl⟩, pl.isList.at fun o e => Heap.get?_push_of_some _ e⟩, truth_bl, fun h' tk hk => ?_⟩
  refine ⟨.bl (bs.any id), H, I.kept fun b o e => hk b o (fun z => by have : b = s.heap.objs.size := by simpa using z
                                                                      exact Nat.lt_irrefl _ (this ▸ Heap.lt_size e)) (Heap.get?_push_of_some _ e), ?_, q⟩
  rw [List.size_toArray, List.length_map, range_any]
  rfl
theorem call_anyE {x C : Addr} {dx : Option Addr} (e : ExcAt X x C dx) (hA : X.A.handled = some (.ref x)) : CallR X (.builtin "any") (rAny X.K) := by
  intro pins s σ H xs us Q I r h
  obtain ⟨p, bs, rfl, hq, q⟩ := h
  obtain ⟨u, rfl, r1⟩ := vals1 r
  cases r1
  obtain ⟨its, rv, pl, hz⟩ := I.list hq
  have eits := vals_bl rv
  subst eits
  obtain ⟨o, vs, hp, hv2, _, _⟩ := e
  have hx := (I.pin _ (List.mem_append_left _ hp)).1
  refine call_any_walk (wpAny_pyIter_list pl.isList ?_)
  have lp : p < s.heap.objs.size := by obtain ⟨o, e, _⟩ := pl.isList; exact Heap.lt_size e
  refine ⟨s.heap.objs.size, _, _, _, _, _, fun i => bs.getD i false, rfl, walks_listH (x := x) (ox := { o with data := .fields vs }) (show X.A.in1.handled = some (.ref x) from hA) rfl hv2 s.heap.objs.size p (Nat.ne_of_lt lp) (Nat.ne_of_lt (Heap.lt_size hx)) (bs.map Value.bool).toArray,
    ⟨⟨⟨_, Heap.get?_push_size _ rfl, rfl, rfl⟩, pl.isList.at fun o e => Heap.get?_push_of_some _ e⟩, Heap.get?_push_of_some _ hx⟩, truth_bl, fun h' tk hk => ?_⟩
  refine ⟨.bl (bs.any id), H, I.kept fun b o e => hk b o (fun z => by have : b = s.heap.objs.size := by simpa using z
                                                                      exact Nat.lt_irrefl _ (this ▸ Heap.lt_size e)) (Heap.get?_push_of_some _ e), ?_, q⟩
  rw [List.size_toArray, List.length_map, range_any]
  rfl
end
/-! ### a cut behind a statement -/
def tCut (t : TS) : TS := fun D σ H => ∃ J : St → Hp → Prop, t { D with nx := J } σ H ∧ ∀ σ' H', J σ' H' → D.nx σ' H'
theorem ps_cut {X : Cx} {st : Stmt} {t : TS} (h : PS X st t) : PS X st (tCut t) := by
  intro pins s σ H D I hw
  obtain ⟨J, h1, h2⟩ := hw
  refine wpAny_mono (h pins s σ H _ I h1) (fun fl s' z => ?_) fun _ _ z => z
  cases fl with
  | next => obtain ⟨a, b, I', q⟩ := z; exact ⟨a, b, I', h2 a b q⟩
  | brk => exact z
  | cont => exact z
  | ret u => exact z
end L2

namespace L2
open PySem PySem.Spec PyProof.Rows
/-! ### DATA: a value with all that it holds; M: the things that may still change, by number -/
inductive Dt where
  | non
  | bl (b : Bool)
  | int (i : Int)
  | str (x : Str)
  | tup (xs : List Dt)
  | lst (xs : List Dt)
  | obj (C : Addr) (ns : List Str) (xs : List Dt)
  | loc (k : Nat)
  | ref (a : Addr)
  | ty (n : String)
  | scr (ns : List Int)
  | kt (xs : List Dt)
inductive MO where
  | lst (xs : List Dt)
  | ins (C : Addr) (ns : List Str) (xs : List Dt)
  | dct (ks : List Key) (xs : List Dt)
abbrev Ms := List MO
abbrev En := List (Option Dt)
mutual
def Den (K : PySem.W.Frag) (G : Hp) (L : List Addr) : Dt → V → Prop
  | .non, v => v = .non
  | .bl b, v => v = .bl b
  | .int i, v => v = .int i
  | .str x, v => v = .str x
  | .tup ds, v => ∃ a vs, v = .ref a ∧ G a = some (.tup vs) ∧ DenL K G L ds vs
  | .lst ds, v => ∃ a vs, v = .ref a ∧ G a = some (.lst vs) ∧ DenL K G L ds vs
  | .obj C ns ds, v => ∃ a dx vs, v = .ref a ∧ G a = some (.ins C dx (ns.zip vs)) ∧ ns.length = ds.length ∧ DenL K G L ds vs
  | .loc k, v => ∃ a, v = .ref a ∧ L[k]? = some a
  | .ref a, v => v = .ref a
  | .ty n, v => v = .ty n
  | .scr ns, v => ∃ a, v = .ref a ∧ SqL K G a (ns.map V.int)
  | .kt ds, v => ∃ a vs, v = .ref a ∧ SqT K G a vs ∧ DenL K G L ds vs
def DenL (K : PySem.W.Frag) (G : Hp) (L : List Addr) : List Dt → List V → Prop
  | [], vs => vs = []
  | d :: ds, vs => ∃ v r, vs = v :: r ∧ Den K G L d v ∧ DenL K G L ds r
end
def Pre (L L' : List Addr) : Prop := ∃ t, L' = L ++ t
theorem Pre.refl (L : List Addr) : Pre L L := ⟨[], by simp⟩
theorem Pre.trans {a b c : List Addr} (h : Pre a b) (h' : Pre b c) : Pre a c := by
  obtain ⟨t, rfl⟩ := h
  obtain ⟨u, rfl⟩ := h'
  exact ⟨t ++ u, by simp⟩
theorem Pre.get {a b : List Addr} (h : Pre a b) {k : Nat} {x : Addr} (e : a[k]? = some x) : b[k]? = some x := by
  obtain ⟨t, rfl⟩ := h
  have hk : k < a.length := (List.getElem?_eq_some_iff.mp e).1
  rw [List.getElem?_append_left hk]; exact e
theorem Pre.mem {a b : List Addr} (h : Pre a b) {x : Addr} (e : x ∈ a) : x ∈ b := by
  obtain ⟨t, rfl⟩ := h
  exact List.mem_append_left _ e
theorem Same.rd {H H' : Hp} {a : Addr} {u : HO} (e : Same H H') (h : Rd H a u) : Rd H' a u := by
  rcases h with h | ⟨o, h⟩
  · exact .inl (e _ _ h)
  · exact .inr ⟨o, e _ _ h⟩
theorem Same.sqT {K : PySem.W.Frag} {H H' : Hp} {a : Addr} {xs : List V} (e : Same H H') (h : SqT K H a xs) : SqT K H' a xs := by
  rcases h with h | h
  · exact .inl (e.rd h)
  · exact .inr h
section
variable {K : PySem.W.Frag} {G G' : Hp} {L L' : List Addr}
mutual
theorem Den.mono (g : Same G G') (l : Pre L L') : ∀ (d : Dt) (v : V), Den K G L d v → Den K G' L' d v
  | .non, _, h => h
  | .bl _, _, h => h
  | .int _, _, h => h
  | .str _, _, h => h
  | .tup ds, _, ⟨a, vs, e, h1, h2⟩ => ⟨a, vs, e, g _ _ h1, DenL.mono g l ds vs h2⟩
  | .lst ds, _, ⟨a, vs, e, h1, h2⟩ => ⟨a, vs, e, g _ _ h1, DenL.mono g l ds vs h2⟩
  | .obj C ns ds, _, ⟨a, dx, vs, e, h1, hn, h2⟩ => ⟨a, dx, vs, e, g _ _ h1, hn, DenL.mono g l ds vs h2⟩
  | .loc k, _, ⟨a, e, h1⟩ => ⟨a, e, l.get h1⟩
  | .ref _, _, h => h
  | .ty _, _, h => h
  | .scr _, _, ⟨a, e, h1⟩ => ⟨a, e, g.seq h1⟩
  | .kt ds, _, ⟨a, vs, e, h1, h2⟩ => ⟨a, vs, e, g.sqT h1, DenL.mono g l ds vs h2⟩
theorem DenL.mono (g : Same G G') (l : Pre L L') : ∀ (ds : List Dt) (vs : List V), DenL K G L ds vs → DenL K G' L' ds vs
  | [], _, h => h
  | d :: ds, _, ⟨v, r, e, h1, h2⟩ => ⟨v, r, e, Den.mono g l d v h1, DenL.mono g l ds r h2⟩
end
theorem DenL.pair : ∀ {ds : List Dt} {vs : List V}, DenL K G L ds vs → Paired (Den K G L) ds vs
  | [], _, h => by
    have h : _ = _ := h
    subst h
    exact .nil
  | d :: ds, _, ⟨v, r, e, h1, h2⟩ => by
    subst e
    exact .cons h1 (DenL.pair h2)
theorem DenL.of : ∀ {ds : List Dt} {vs : List V}, Paired (Den K G L) ds vs → DenL K G L ds vs
  | _, _, .nil => rfl
  | _, _, .cons h t => ⟨_, _, rfl, h, DenL.of t⟩
end
section
variable {α β : Type} {F : α → β → Prop}
theorem prd_get : ∀ {xs : List α} {us : List β} {i : Nat} {x : α}, Paired F xs us → xs[i]? = some x → ∃ u, us[i]? = some u ∧ F x u
  | _, _, _, _, .nil, e => by simp at e
  | _, _, 0, _, .cons r _, e => by simp at e; subst e; exact ⟨_, rfl, r⟩
  | _, _, i + 1, x, .cons _ t, e => by
    obtain ⟨u, h1, h2⟩ := prd_get (i := i) (x := x) t (by simpa using e)
    exact ⟨u, by simpa using h1, h2⟩
theorem prd_set {x : α} {u : β} (r : F x u) : ∀ {xs : List α} {us : List β} (i : Nat), Paired F xs us → Paired F (xs.set i x) (us.set i u)
  | _, _, _, .nil => .nil
  | _, _, 0, .cons _ t => .cons r t
  | _, _, i + 1, .cons q t => .cons q (prd_set r i t)
theorem prd_app : ∀ {xs ys : List α} {us ws : List β}, Paired F xs us → Paired F ys ws → Paired F (xs ++ ys) (us ++ ws)
  | _, _, _, _, .nil, s => s
  | _, _, _, _, .cons r t, s => .cons r (prd_app t s)
theorem prd_take : ∀ {xs : List α} {us : List β} (n : Nat), Paired F xs us → Paired F (xs.take n) (us.take n)
  | _, _, 0, _ => .nil
  | _, _, _ + 1, .nil => .nil
  | _, _, n + 1, .cons r t => .cons r (prd_take n t)
theorem prd_drop : ∀ {xs : List α} {us : List β} (n : Nat), Paired F xs us → Paired F (xs.drop n) (us.drop n)
  | _, _, 0, r => r
  | _, _, _ + 1, .nil => .nil
  | _, _, n + 1, .cons _ t => prd_drop n t
theorem prd_rep {xs : List α} {us : List β} (h : Paired F xs us) : ∀ k : Nat, Paired F (List.replicate k xs).flatten (List.replicate k us).flatten
  | 0 => .nil
  | k + 1 => by
    rw [List.replicate_succ, List.replicate_succ, List.flatten_cons, List.flatten_cons]
    exact prd_app h (prd_rep h k)
end
section
variable {K : PySem.W.Frag} {G : Hp} {L : List Addr}
theorem DenL.length {ds : List Dt} {vs : List V} (h : DenL K G L ds vs) : ds.length = vs.length := Paired.length h.pair
theorem DenL.get {ds : List Dt} {vs : List V} {i : Nat} {d : Dt} (h : DenL K G L ds vs) (e : ds[i]? = some d) : ∃ v, vs[i]? = some v ∧ Den K G L d v := prd_get h.pair e
theorem DenL.app {ds es : List Dt} {vs us : List V} (h : DenL K G L ds vs) (h' : DenL K G L es us) : DenL K G L (ds ++ es) (vs ++ us) := .of (prd_app h.pair h'.pair)
theorem denL_ints : ∀ {ns : List Int}, DenL K G L (ns.map Dt.int) (ns.map V.int)
  | [] => rfl
  | n :: ns => ⟨_, _, rfl, rfl, denL_ints⟩
theorem denL_one {d : Dt} {vs : List V} (h : DenL K G L [d] vs) : ∃ v, vs = [v] ∧ Den K G L d v := by
  obtain ⟨v, r, rfl, h1, h2⟩ := h
  have h2 : r = [] := h2
  subst h2
  exact ⟨v, rfl, h1⟩
theorem denL_two {d e : Dt} {vs : List V} (h : DenL K G L [d, e] vs) : ∃ v u, vs = [v, u] ∧ Den K G L d v ∧ Den K G L e u := by
  obtain ⟨v, r, rfl, h1, h2⟩ := h
  obtain ⟨u, rfl, h3⟩ := denL_one h2
  exact ⟨v, u, rfl, h1, h3⟩
end
/-! ### the state -/
def MOk (K : PySem.W.Frag) (G : Hp) (L : List Addr) (H : Hp) (a : Addr) : MO → Prop
  | .lst ds => ∃ vs, H a = some (.lst vs) ∧ DenL K G L ds vs
  | .ins C ns ds => ∃ dx vs, H a = some (.ins C dx (ns.zip vs)) ∧ ns.length = ds.length ∧ DenL K G L ds vs
  | .dct ks ds => ∃ vs, H a = some (.dK (ks.zip vs)) ∧ ks.length = ds.length ∧ DenL K G L ds vs
structure Rl (K : PySem.W.Frag) (G : Hp) (L : List Addr) (M : Ms) (H : Hp) : Prop where
  sub : Same G H
  len : L.length = M.length
  nd : L.Nodup
  ats : ∀ (k : Nat) (a : Addr) (m : MO), L[k]? = some a → M[k]? = some m → G a = none ∧ MOk K G L H a m
structure Ex (G : Hp) (L : List Addr) (H : Hp) (G' : Hp) (L' : List Addr) (H' : Hp) : Prop where
  g : Same G G'
  l : Pre L L'
  fr : ∀ b, G b = none → H b ≠ none → G' b = none
  out : ∀ b o, H b = some o → b ∉ L → H' b = some o
  new : ∀ b ∈ L', b ∈ L ∨ H b = none
  dom : ∀ b, H b ≠ none → H' b ≠ none
theorem Ex.refl (G : Hp) (L : List Addr) (H : Hp) : Ex G L H G L H := ⟨.refl _, .refl _, fun _ h _ => h, fun _ _ h _ => h, fun _ h => .inl h, fun _ h => h⟩
theorem Ex.trans {G : Hp} {L : List Addr} {H G1 : Hp} {L1 : List Addr} {H1 G2 : Hp} {L2 : List Addr} {H2 : Hp} (a : Ex G L H G1 L1 H1) (b : Ex G1 L1 H1 G2 L2 H2) : Ex G L H G2 L2 H2 where
  g := a.g.trans b.g
  l := a.l.trans b.l
  fr := fun x h1 h2 => b.fr x (a.fr x h1 h2) (a.dom x h2)
  out := fun x o h1 h2 => b.out x o (a.out x o h1 h2) fun z => (a.new x z).elim h2 fun q => by rw [h1] at q; cases q
  new := fun x h => by
    rcases b.new x h with z | z
    · exact a.new x z
    · right
      cases q : H x with
      | none => rfl
      | some o => exact absurd z (a.dom x (by rw [q]; simp))
  dom := fun x h => b.dom x (a.dom x h)
theorem MOk.there {K : PySem.W.Frag} {G : Hp} {L : List Addr} {H : Hp} {a : Addr} {m : MO} (h : MOk K G L H a m) : H a ≠ none := by
  cases m with
  | lst ds => obtain ⟨vs, e, _⟩ := h; rw [e]; simp
  | ins C ns ds => obtain ⟨dx, vs, e, _⟩ := h; rw [e]; simp
  | dct ks ds => obtain ⟨vs, e, _⟩ := h; rw [e]; simp
theorem MOk.mono {K : PySem.W.Frag} {G G' : Hp} {L L' : List Addr} {H H' : Hp} {a : Addr} {m : MO} (g : Same G G') (l : Pre L L') (e : H' a = H a) (h : MOk K G L H a m) : MOk K G' L' H' a m := by
  cases m with
  | lst ds => obtain ⟨vs, e1, h⟩ := h; exact ⟨vs, e.trans e1, DenL.mono g l _ _ h⟩
  | ins C ns ds => obtain ⟨dx, vs, e1, h0, h⟩ := h; exact ⟨dx, vs, e.trans e1, h0, DenL.mono g l _ _ h⟩
  | dct ks ds => obtain ⟨vs, e1, h0, h⟩ := h; exact ⟨vs, e.trans e1, h0, DenL.mono g l _ _ h⟩
section
variable {K : PySem.W.Frag} {G : Hp} {L : List Addr} {M : Ms} {H : Hp} {p : Addr} {o : HO}
theorem Rl.at_mem (r : Rl K G L M H) {a : Addr} (h : a ∈ L) : ∃ (k : Nat) (m : MO), L[k]? = some a ∧ M[k]? = some m ∧ G a = none ∧ MOk K G L H a m := by
  obtain ⟨k, hk, e⟩ := List.getElem_of_mem h
  have e1 : L[k]? = some a := by rw [List.getElem?_eq_getElem hk, e]
  have e2 : M[k]? = some (M[k]'(by rw [← r.len]; exact hk)) := List.getElem?_eq_getElem _
  exact ⟨k, _, e1, e2, r.ats k a _ e1 e2⟩
theorem Rl.memN (r : Rl K G L M H) (hp : H p = none) : p ∉ L := fun z => by
  obtain ⟨k, m, _, _, _, h⟩ := r.at_mem z
  exact h.there hp
theorem Rl.newG (r : Rl K G L M H) (hp : H p = none) : Rl K (upd G p o) L M (upd H p o) where
  sub := fun b u e => by
    by_cases hb : b = p
    · subst hb; rw [upd_same] at e ⊢; exact e
    · rw [upd_ne hb] at e ⊢; exact r.sub b u e
  len := r.len
  nd := r.nd
  ats := fun k a m h1 h2 => by
    obtain ⟨q1, q2⟩ := r.ats k a m h1 h2
    have hb : a ≠ p := fun z => q2.there (by rw [z]; exact hp)
    exact ⟨by rw [upd_ne hb]; exact q1, q2.mono (fun b u e => by rw [upd_ne (fun z => by rw [z, r.sub.free hp] at e; cases e)]; exact e) (.refl _) (upd_ne hb)⟩
theorem Rl.exG (r : Rl K G L M H) (hp : H p = none) : Ex G L H (upd G p o) L (upd H p o) where
  g := fun b u e => by rw [upd_ne (fun z => by rw [z, r.sub.free hp] at e; cases e)]; exact e
  l := .refl _
  fr := fun b h1 h2 => by rw [upd_ne (fun z => h2 (by rw [z]; exact hp))]; exact h1
  out := fun b u h1 _ => by rw [upd_ne (fun z => by rw [z, hp] at h1; cases h1)]; exact h1
  new := fun b h => .inl h
  dom := fun b h => by rw [upd_ne (fun z => h (by rw [z]; exact hp))]; exact h
/-- a new thing that may change -/
theorem Rl.newM {m : MO} (r : Rl K G L M H) (hp : H p = none) (hm : MOk K G (L ++ [p]) (upd H p o) p m) : Rl K G (L ++ [p]) (M ++ [m]) (upd H p o) where
  sub := fun b u e => by rw [upd_ne (fun z => by rw [z, r.sub.free hp] at e; cases e)]; exact r.sub b u e
  len := by rw [List.length_append, List.length_append, r.len]; rfl
  nd := List.nodup_append.mpr ⟨r.nd, by simp, fun a ha b hb => by
    have e : b = p := by simpa using hb
    rw [e]; exact fun z => r.memN hp (z ▸ ha)⟩
  ats := fun k a m' h1 h2 => by
    by_cases hk : k < L.length
    · rw [List.getElem?_append_left hk] at h1
      rw [List.getElem?_append_left (by rw [← r.len]; exact hk)] at h2
      obtain ⟨q1, q2⟩ := r.ats k a m' h1 h2
      exact ⟨q1, q2.mono (.refl _) ⟨[p], rfl⟩ (upd_ne fun z => q2.there (by rw [z]; exact hp))⟩
    · have e : k = L.length := by
        have := (List.getElem?_eq_some_iff.mp h1).1
        rw [List.length_append] at this
        simp at this
        omega
      rw [e, List.getElem?_append_right (Nat.le_refl _)] at h1
      rw [e, r.len, List.getElem?_append_right (Nat.le_refl _)] at h2
      simp at h1 h2
      subst h1 h2
      exact ⟨r.sub.free hp, hm⟩
theorem Rl.exM (r : Rl K G L M H) (hp : H p = none) : Ex G L H G (L ++ [p]) (upd H p o) where
  g := .refl _
  l := ⟨[p], rfl⟩
  fr := fun b h1 _ => h1
  out := fun b u h1 _ => by rw [upd_ne (fun z => by rw [z, hp] at h1; cases h1)]; exact h1
  new := fun b h => by
    rcases List.mem_append.mp h with z | z
    · exact .inl z
    · have e : b = p := by simpa using z
      right; rw [e]; exact hp
  dom := fun b h => by rw [upd_ne (fun z => h (by rw [z]; exact hp))]; exact h
/-- a thing is changed -/
theorem Rl.setM {k : Nat} {a : Addr} {m : MO} (r : Rl K G L M H) (hk : L[k]? = some a) (hm : MOk K G L (upd H a o) a m) : Rl K G L (M.set k m) (upd H a o) where
  sub := fun b u e => by
    obtain ⟨k', m', e1, e2, q1, _⟩ := r.at_mem (List.mem_of_getElem? hk)
    rw [upd_ne (fun z => by rw [z, q1] at e; cases e)]; exact r.sub b u e
  len := by rw [List.length_set]; exact r.len
  nd := r.nd
  ats := fun k' a' m' h1 h2 => by
    by_cases e : k' = k
    · subst e
      rw [hk] at h1; cases h1
      have hl : k' < M.length := by rw [← r.len]; exact (List.getElem?_eq_some_iff.mp hk).1
      rw [List.getElem?_set_self hl] at h2
      cases h2
      obtain ⟨_, _, _, _, q1, _⟩ := r.at_mem (List.mem_of_getElem? hk)
      exact ⟨q1, hm⟩
    · rw [List.getElem?_set_ne (fun z => e z.symm)] at h2
      obtain ⟨q1, q2⟩ := r.ats k' a' m' h1 h2
      have ne : a' ≠ a := fun z => by
        subst z
        exact e ((List.getElem?_inj (List.getElem?_eq_some_iff.mp h1).1 r.nd).mp (h1.trans hk.symm))
      exact ⟨q1, q2.mono (.refl _) (.refl _) (upd_ne ne)⟩
theorem Rl.exS {k : Nat} {a : Addr} (r : Rl K G L M H) (hk : L[k]? = some a) : Ex G L H G L (upd H a o) where
  g := .refl _
  l := .refl _
  fr := fun b h1 _ => h1
  out := fun b u h1 h2 => by rw [upd_ne (fun z => h2 (by rw [z]; exact List.mem_of_getElem? hk))]; exact h1
  new := fun b h => .inl h
  dom := fun b h => by
    by_cases e : b = a
    · rw [e, upd_same]; simp
    · rw [upd_ne e]; exact h
end
/-! ### names -/
structure EnD (K : PySem.W.Frag) (G : Hp) (L : List Addr) (ρ : En) (σ : St) : Prop where
  len : ρ.length = σ.length
  ats : ∀ (i : Nat) (d : Dt), ρ[i]? = some (some d) → ∃ v, σ[i]? = some (some v) ∧ Den K G L d v
section
variable {K : PySem.W.Frag} {G G' : Hp} {L L' : List Addr} {H H' : Hp} {ρ : En} {σ : St}
theorem EnD.mono (h : EnD K G L ρ σ) (e : Ex G L H G' L' H') : EnD K G' L' ρ σ := ⟨h.len, fun i d q => let ⟨v, a, b⟩ := h.ats i d q; ⟨v, a, Den.mono e.g e.l d v b⟩⟩
theorem EnD.set (h : EnD K G L ρ σ) (i : Nat) {d : Dt} {v : V} (q : Den K G L d v) : EnD K G L (ρ.set i (some d)) (σ.set i (some v)) := by
  refine ⟨by rw [List.length_set, List.length_set]; exact h.len, fun j d' e => ?_⟩
  by_cases hj : i = j
  · subst hj
    have hl : i < ρ.length := by
      have := (List.getElem?_eq_some_iff.mp e).1
      rwa [List.length_set] at this
    rw [List.getElem?_set_self hl] at e
    cases e
    exact ⟨v, List.getElem?_set_self (by rw [← h.len]; exact hl), q⟩
  · rw [List.getElem?_set_ne hj] at e
    obtain ⟨u, a, b⟩ := h.ats j d' e
    exact ⟨u, by rw [List.getElem?_set_ne hj]; exact a, b⟩
end
/-! ### exceptions -/
abbrev DQ := Dt → Ms → Prop
abbrev DX := En → Addr → List (Str × Dt) → Ms → Prop
def xRel (K : PySem.W.Frag) (G : Hp) (L : List Addr) (H : Hp) (fs : List (Str × Dt)) (od : Option Addr) : Prop :=
  (fs = [] ∧ od = none) ∨ fs ≠ [] ∧ ∃ dx vs, od = some dx ∧ H dx = some (.xd ((fs.map (·.1)).zip vs)) ∧ DenL K G L (fs.map (·.2)) vs
def XOk (K : PySem.W.Frag) (G : Hp) (L : List Addr) (H : Hp) (R : St → XK) (x : DX) : Prop :=
  ∀ σ ρ C fs M' G' L' H' od, x ρ C fs M' → Ex G L H G' L' H' → Rl K G' L' M' H' → EnD K G' L' ρ σ → xRel K G' L' H' fs od → R σ (.ref C) od H'
theorem XOk.on {K : PySem.W.Frag} {G : Hp} {L : List Addr} {H G1 : Hp} {L1 : List Addr} {H1 : Hp} {R : St → XK} {x : DX} (h : XOk K G L H R x) (e : Ex G L H G1 L1 H1) : XOk K G1 L1 H1 R x :=
  fun σ ρ C fs M' G' L' H' od q e' r n y => h σ ρ C fs M' G' L' H' od q (e.trans e') r n y
def noX : DX := fun _ _ _ _ => False
theorem xok_no {K : PySem.W.Frag} {G : Hp} {L : List Addr} {H : Hp} {R : St → XK} : XOk K G L H R noX := fun _ _ _ _ _ _ _ _ _ q => q.elim
/-! ### the judgements -/
abbrev DE := En → Ms → DQ → DX → Prop
abbrev DT := En → Ms → (Bool → Ms → Prop) → DX → Prop
abbrev DA := En → Ms → (List Dt → Ms → Prop) → DX → Prop
structure DEnds where
  nx : En → Ms → Prop
  rt : DQ
  bk : En → Ms → Prop := fun _ _ => False
  ct : En → Ms → Prop := fun _ _ => False
  x : DX := noX
abbrev DS := DEnds → En → Ms → Prop
def Fin (K : PySem.W.Frag) (G0 : Hp) (L0 : List Addr) (H0 : Hp) (q : DQ) : VK := fun v H => ∃ d G L M, Ex G0 L0 H0 G L H ∧ Rl K G L M H ∧ Den K G L d v ∧ q d M
def FinT (K : PySem.W.Frag) (G0 : Hp) (L0 : List Addr) (H0 : Hp) (q : Bool → Ms → Prop) : Bool → Hp → Prop := fun b H => ∃ G L M, Ex G0 L0 H0 G L H ∧ Rl K G L M H ∧ q b M
def FinA (K : PySem.W.Frag) (G0 : Hp) (L0 : List Addr) (H0 : Hp) (q : List Dt → Ms → Prop) : List V → Hp → Prop := fun vs H => ∃ ds G L M, Ex G0 L0 H0 G L H ∧ Rl K G L M H ∧ DenL K G L ds vs ∧ q ds M
def FinN (K : PySem.W.Frag) (G0 : Hp) (L0 : List Addr) (H0 : Hp) (q : En → Ms → Prop) : St → Hp → Prop := fun σ H => ∃ ρ G L M, Ex G0 L0 H0 G L H ∧ Rl K G L M H ∧ EnD K G L ρ σ ∧ q ρ M
def FinS (K : PySem.W.Frag) (G0 : Hp) (L0 : List Addr) (H0 : Hp) (Dn : DEnds) : Ends := ⟨FinN K G0 L0 H0 Dn.nx, Fin K G0 L0 H0 Dn.rt, FinN K G0 L0 H0 Dn.bk, FinN K G0 L0 H0 Dn.ct⟩
def lowE (K : PySem.W.Frag) (R : St → XK) (t : DE) : TE := fun σ H Q => ∃ G L ρ M q x, Rl K G L M H ∧ EnD K G L ρ σ ∧ t ρ M q x ∧ XOk K G L H R x ∧ ∀ v H1, Fin K G L H q v H1 → Q v H1
def lowT (K : PySem.W.Frag) (R : St → XK) (t : DT) : TT := fun σ H Q => ∃ G L ρ M q x, Rl K G L M H ∧ EnD K G L ρ σ ∧ t ρ M q x ∧ XOk K G L H R x ∧ ∀ b H1, FinT K G L H q b H1 → Q b H1
def lowA (K : PySem.W.Frag) (R : St → XK) (t : DA) : TA := fun σ H Q => ∃ G L ρ M q x, Rl K G L M H ∧ EnD K G L ρ σ ∧ t ρ M q x ∧ XOk K G L H R x ∧ ∀ vs H1, FinA K G L H q vs H1 → Q vs H1
structure EImp (A B : Ends) : Prop where
  nx : ∀ σ H, A.nx σ H → B.nx σ H
  rt : ∀ v H, A.rt v H → B.rt v H
  bk : ∀ σ H, A.bk σ H → B.bk σ H
  ct : ∀ σ H, A.ct σ H → B.ct σ H
def lowS (K : PySem.W.Frag) (R : St → XK) (t : DS) : TS := fun De σ H => ∃ G L ρ M Dn, Rl K G L M H ∧ EnD K G L ρ σ ∧ t Dn ρ M ∧ XOk K G L H R Dn.x ∧ EImp (FinS K G L H Dn) De
def JE (X : Cx) (R : St → XK) (e : Expr) (t : DE) : Prop := PE X e (lowE X.K R t)
def JT (X : Cx) (R : St → XK) (e : Expr) (t : DT) : Prop := PT X e (lowT X.K R t)
def JW (X : Cx) (R : St → XK) (e : Expr) (t : DT) : Prop := PW X e (lowT X.K R t)
def JA (X : Cx) (R : St → XK) (es : List Expr) (t : DA) : Prop := PA X es (lowA X.K R t)
def JS (X : Cx) (R : St → XK) (st : Stmt) (t : DS) : Prop := PS X st (lowS X.K R t)
def JSs (X : Cx) (R : St → XK) (st : List Stmt) (t : DS) : Prop := PSs X st (lowS X.K R t)
section
variable {K : PySem.W.Frag} {G0 : Hp} {L0 : List Addr} {H0 G1 : Hp} {L1 : List Addr} {H1 : Hp}
theorem Fin.back {q : DQ} (e : Ex G0 L0 H0 G1 L1 H1) {v : V} {H : Hp} (h : Fin K G1 L1 H1 q v H) : Fin K G0 L0 H0 q v H := let ⟨d, G, L, M, a, b, c, f⟩ := h; ⟨d, G, L, M, e.trans a, b, c, f⟩
theorem FinN.back {q : En → Ms → Prop} (e : Ex G0 L0 H0 G1 L1 H1) {v : St} {H : Hp} (h : FinN K G1 L1 H1 q v H) : FinN K G0 L0 H0 q v H := let ⟨d, G, L, M, a, b, c, f⟩ := h; ⟨d, G, L, M, e.trans a, b, c, f⟩
theorem FinT.back {q : Bool → Ms → Prop} (e : Ex G0 L0 H0 G1 L1 H1) {v : Bool} {H : Hp} (h : FinT K G1 L1 H1 q v H) : FinT K G0 L0 H0 q v H := let ⟨G, L, M, a, b, f⟩ := h; ⟨G, L, M, e.trans a, b, f⟩
theorem FinS.back {Dn : DEnds} (e : Ex G0 L0 H0 G1 L1 H1) : EImp (FinS K G1 L1 H1 Dn) (FinS K G0 L0 H0 Dn) := ⟨fun _ _ h => FinN.back e h, fun _ _ h => Fin.back e h, fun _ _ h => FinN.back e h, fun _ _ h => FinN.back e h⟩
theorem EImp.trans {A B C : Ends} (a : EImp A B) (b : EImp B C) : EImp A C := ⟨fun _ _ h => b.nx _ _ (a.nx _ _ h), fun _ _ h => b.rt _ _ (a.rt _ _ h), fun _ _ h => b.bk _ _ (a.bk _ _ h), fun _ _ h => b.ct _ _ (a.ct _ _ h)⟩
theorem SP.imp {X : Cx} {pins : List (Addr × Obj)} {A B : Ends} (e : EImp A B) {f : Flow} {s : Shared} (h : SP X pins A f s) : SP X pins B f s := by
  cases f with
  | next => obtain ⟨a, b, I, q⟩ := h; exact ⟨a, b, I, e.nx _ _ q⟩
  | brk => obtain ⟨a, b, I, q⟩ := h; exact ⟨a, b, I, e.bk _ _ q⟩
  | cont => obtain ⟨a, b, I, q⟩ := h; exact ⟨a, b, I, e.ct _ _ q⟩
  | ret u => obtain ⟨v, a, b, I, r, q⟩ := h; exact ⟨v, a, b, I, r, e.rt _ _ q⟩
end
section
variable {X : Cx} {R : St → XK} {e : Expr}
theorem JE.of {te : TE} {t : DE} (h : PE X e te) (hw : ∀ σ H G L ρ M q x, Rl X.K G L M H → EnD X.K G L ρ σ → t ρ M q x → XOk X.K G L H R x → te σ H (Fin X.K G L H q)) : JE X R e t := by
  intro pins s σ H Q I ⟨G, L, ρ, M, q, x, r, n, ht, hx, hQ⟩
  refine thn (h pins s σ H _ I (hw σ H G L ρ M q x r n ht hx)) fun u s1 ⟨v, H1, I1, rv, f⟩ => ⟨v, H1, I1, rv, hQ v H1 f⟩
theorem JT.of {te : TT} {t : DT} (h : PT X e te) (hw : ∀ σ H G L ρ M q x, Rl X.K G L M H → EnD X.K G L ρ σ → t ρ M q x → XOk X.K G L H R x → te σ H (FinT X.K G L H q)) : JT X R e t := by
  intro pins s σ H Q I ⟨G, L, ρ, M, q, x, r, n, ht, hx, hQ⟩
  refine thn (h pins s σ H _ I (hw σ H G L ρ M q x r n ht hx)) fun u s1 ⟨H1, I1, f⟩ => ⟨H1, I1, hQ u H1 f⟩
theorem JW.of {te : TT} {t : DT} (h : PW X e te) (hw : ∀ σ H G L ρ M q x, Rl X.K G L M H → EnD X.K G L ρ σ → t ρ M q x → XOk X.K G L H R x → te σ H (FinT X.K G L H q)) : JW X R e t := by
  intro wh pins s σ H Q I ⟨G, L, ρ, M, q, x, r, n, ht, hx, hQ⟩
  refine thn (h wh pins s σ H _ I (hw σ H G L ρ M q x r n ht hx)) fun u s1 ⟨H1, I1, f⟩ => ⟨H1, I1, hQ u H1 f⟩
theorem JA.of {es : List Expr} {te : TA} {t : DA} (h : PA X es te) (hw : ∀ σ H G L ρ M q x, Rl X.K G L M H → EnD X.K G L ρ σ → t ρ M q x → XOk X.K G L H R x → te σ H (FinA X.K G L H q)) : JA X R es t := by
  intro pos pins s σ H Q I ⟨G, L, ρ, M, q, x, r, n, ht, hx, hQ⟩
  refine thn (h pos pins s σ H _ I (hw σ H G L ρ M q x r n ht hx)) fun u s1 ⟨v, H1, I1, rv, f⟩ => ⟨v, H1, I1, rv, hQ v H1 f⟩
theorem JS.of {st : Stmt} {te : TS} {t : DS} (h : PS X st te) (hw : ∀ σ H G L ρ M Dn, Rl X.K G L M H → EnD X.K G L ρ σ → t Dn ρ M → XOk X.K G L H R Dn.x → te (FinS X.K G L H Dn) σ H) : JS X R st t := by
  intro pins s σ H De I ⟨G, L, ρ, M, Dn, r, n, ht, hx, hQ⟩
  exact thn (h pins s σ H _ I (hw σ H G L ρ M Dn r n ht hx)) fun u s1 f => SP.imp hQ f
theorem JSs.of {st : List Stmt} {te : TS} {t : DS} (h : PSs X st te) (hw : ∀ σ H G L ρ M Dn, Rl X.K G L M H → EnD X.K G L ρ σ → t Dn ρ M → XOk X.K G L H R Dn.x → te (FinS X.K G L H Dn) σ H) : JSs X R st t := by
  intro pins s σ H De I ⟨G, L, ρ, M, Dn, r, n, ht, hx, hQ⟩
  exact thn (h pins s σ H _ I (hw σ H G L ρ M Dn r n ht hx)) fun u s1 f => SP.imp hQ f
end
end L2

namespace L2
open PySem PySem.Spec PyProof.Rows
/-! ### names, constants -/
def dVar (i : Nat) : DE := fun ρ M q _ => match ρ[i]? with
  | some (some d) => q d M
  | _ => False
def dC (d : Dt) : DE := fun _ M q _ => q d M
def dOp (f : Dt → Dt → Ms → DQ → Prop) (a b : DE) : DE := fun ρ M q x => a ρ M (fun d1 M1 => b ρ M1 (fun d2 M2 => f d1 d2 M2 q) x) x
def dUn (f : Dt → Ms → DQ → Prop) (a : DE) : DE := fun ρ M q x => a ρ M (fun d1 M1 => f d1 M1 q) x
def aNil : DA := fun _ M q _ => q [] M
def aCons (a : DE) (r : DA) : DA := fun ρ M q x => a ρ M (fun d M1 => r ρ M1 (fun ds M2 => q (d :: ds) M2) x) x
def dFn (f : List Dt → Ms → DQ → Prop) (a : DA) : DE := fun ρ M q x => a ρ M (fun ds M1 => f ds M1 q) x
/-- a two-place operation by values -/
def OpD (K : PySem.W.Frag) (r : R2) (f : Dt → Dt → Ms → DQ → Prop) : Prop :=
  ∀ G0 L0 H0 G L M H v1 v2 d1 d2 q, Ex G0 L0 H0 G L H → Rl K G L M H → Den K G L d1 v1 → Den K G L d2 v2 → f d1 d2 M q → r v1 v2 H (Fin K G0 L0 H0 q)
def UnD (K : PySem.W.Frag) (r : V → Hp → VK → Prop) (f : Dt → Ms → DQ → Prop) : Prop :=
  ∀ G0 L0 H0 G L M H v1 d1 q, Ex G0 L0 H0 G L H → Rl K G L M H → Den K G L d1 v1 → f d1 M q → r v1 H (Fin K G0 L0 H0 q)
def CaD (K : PySem.W.Frag) (r : List V → Hp → VK → Prop) (f : List Dt → Ms → DQ → Prop) : Prop :=
  ∀ G0 L0 H0 G L M H vs ds q, Ex G0 L0 H0 G L H → Rl K G L M H → DenL K G L ds vs → f ds M q → r vs H (Fin K G0 L0 H0 q)
def MtD (K : PySem.W.Frag) (T : String) (r : V → List V → Hp → VK → Prop) (f : Dt → List Dt → Ms → DQ → Prop) : Prop :=
  ∀ G0 L0 H0 G L M H v d vs ds q, Ex G0 L0 H0 G L H → Rl K G L M H → Den K G L d v → DenL K G L ds vs → f d ds M q → r v vs H (Fin K G0 L0 H0 q)
section
variable {K : PySem.W.Frag} {R : St → XK} {ta tb : DE} {tc : DA} {σ : St} {H G : Hp} {L : List Addr} {ρ : En} {M : Ms} {q : DQ} {x : DX}
theorem bin_rd {r : R2} {f : Dt → Dt → Ms → DQ → Prop} (od : OpD K r f) (rl : Rl K G L M H) (n : EnD K G L ρ σ) (h : dOp f ta tb ρ M q x) (hx : XOk K G L H R x) : tOp r (lowE K R ta) (lowE K R tb) σ H (Fin K G L H q) := by
  refine ⟨G, L, ρ, M, _, x, rl, n, h, hx, fun v H1 ⟨d1, G1, L1, M1, e1, r1, n1, h1⟩ => ?_⟩
  refine ⟨G1, L1, ρ, M1, _, x, r1, n.mono e1, h1, hx.on e1, fun v2 H2 ⟨d2, G2, L2, M2, e2, r2, n2, h2⟩ => ?_⟩
  exact od G L H G2 L2 M2 H2 v v2 d1 d2 q (e1.trans e2) r2 (Den.mono e2.g e2.l _ _ n1) n2 h2
theorem un_rd {r : V → Hp → VK → Prop} {f : Dt → Ms → DQ → Prop} (od : UnD K r f) (rl : Rl K G L M H) (n : EnD K G L ρ σ) (h : dUn f ta ρ M q x) (hx : XOk K G L H R x) : tUn r (lowE K R ta) σ H (Fin K G L H q) := by
  refine ⟨G, L, ρ, M, _, x, rl, n, h, hx, fun v H1 ⟨d1, G1, L1, M1, e1, r1, n1, h1⟩ => ?_⟩
  exact od G L H G1 L1 M1 H1 v d1 q e1 r1 n1 h1
theorem ca_rd {r : List V → Hp → VK → Prop} {f : List Dt → Ms → DQ → Prop} (od : CaD K r f) (rl : Rl K G L M H) (n : EnD K G L ρ σ) (h : dFn f tc ρ M q x) (hx : XOk K G L H R x) : tCB r (lowA K R tc) σ H (Fin K G L H q) := by
  refine ⟨G, L, ρ, M, _, x, rl, n, h, hx, fun v H1 ⟨d1, G1, L1, M1, e1, r1, n1, h1⟩ => ?_⟩
  exact od G L H G1 L1 M1 H1 v d1 q e1 r1 n1 h1
end
section
variable {X : Cx} {R : St → XK} {a b c : Expr} {ta tb : DE} {pos : Pos}
theorem jv (i : Nat) {x : Str} {pos : Pos} (hN : X.N[i]? = some x := by rfl) (hv : Vis X.env.scope x := by first | exact Or.inl rfl | exact Or.inr (Or.inl rfl) | exact Or.inr (Or.inr rfl)) (hd : (x == ("__debug__" : Str)) = false := by decide)
    (hcd : (x == ("__classdict__" : Str)) = false := by decide) : JE X R (.Name x pos) (dVar i) := .of (pe_var hN hv hd hcd) fun σ H G L ρ M q x r n h hx => by
  unfold dVar at h
  split at h
  · rename_i d e
    obtain ⟨v, e1, h1⟩ := n.ats i d e
    exact ⟨v, e1, d, G, L, M, .refl _ _ _, r, h1, h⟩
  · exact h.elim
theorem j_c {d : Dt} {v : V} {e : Expr} (h : PE X e (tC v)) (hd : ∀ G L, Den X.K G L d v) : JE X R e (dC d) := .of h fun σ H G L ρ M q x r n h hx => ⟨d, G, L, M, .refl _ _ _, r, hd G L, h⟩
theorem jint {i j pos} : JE X R (.Constant (.int i) j pos) (dC (.int i)) := j_c pe_int fun _ _ => rfl
theorem jbl {b j pos} : JE X R (.Constant (.bool b) j pos) (dC (.bl b)) := j_c pe_bl fun _ _ => rfl
theorem jnon {j pos} : JE X R (.Constant .none j pos) (dC .non) := j_c pe_non fun _ _ => rfl
theorem jstr {x j pos} : JE X R (.Constant (.str x) j pos) (dC (.str x)) := j_c pe_str fun _ _ => rfl
theorem j_op {op : Operator} {r : R2} {f : Dt → Dt → Ms → DQ → Prop} (ho : OpR X (binaryOp op) r) (od : OpD X.K r f) (ja : JE X R a ta) (jb : JE X R b tb) : JE X R (.BinOp a op b pos) (dOp f ta tb) :=
  .of (pe_op ho ja jb) fun σ H G L ρ M q x r n h hx => bin_rd od r n h hx
theorem j_un {op : UnaryOp} {r : V → Hp → VK → Prop} {f : Dt → Ms → DQ → Prop} (ho : UnR X (unaryOp op) r) (od : UnD X.K r f) (ja : JE X R a ta) : JE X R (.UnaryOp op a pos) (dUn f ta) :=
  .of (pe_un ho ja) fun σ H G L ρ M q x r n h hx => un_rd od r n h hx
theorem j_cmp {op : CmpOp} {r : R2} {f : Dt → Dt → Ms → DQ → Prop} (ho : OpR X (compareOp op) r) (od : OpD X.K r f) (ja : JE X R a ta) (jb : JE X R b tb) (hm : behindInMarks op b = false) : JE X R (.Compare a [op] [b] pos) (dOp f ta tb) :=
  .of (pe_cmpR ho ja jb hm) fun σ H G L ρ M q x r n h hx => bin_rd od r n h hx
theorem j_ixs {r : R2} {f : Dt → Dt → Ms → DQ → Prop} (hr : IxR X r) (od : OpD X.K r f) (ja : JE X R a ta) (jb : JE X R b tb) (hs : PlainIx b) : JE X R (.Subscript a b pos) (dOp f ta tb) :=
  .of (pe_ix hr ja jb hs) fun σ H G L ρ M q x r n h hx => bin_rd od r n h hx
/-! ### argument lists, displays -/
theorem starC {env : Env} {es : List Expr} {c j p} : starEach (.Constant c j p :: es) env = (false, eval (.Constant c j p) env) :: starEach es env := rfl
theorem starN {env : Env} {es : List Expr} {c p} : starEach (.Name c p :: es) env = (false, eval (.Name c p) env) :: starEach es env := rfl
theorem starB {env : Env} {es : List Expr} {a o b p} : starEach (.BinOp a o b p :: es) env = (false, eval (.BinOp a o b p) env) :: starEach es env := rfl
theorem starF {env : Env} {es : List Expr} {a b c p} : starEach (.Call a b c p :: es) env = (false, eval (.Call a b c p) env) :: starEach es env := rfl
theorem starX {env : Env} {es : List Expr} {a b p} : starEach (.Subscript a b p :: es) env = (false, eval (.Subscript a b p) env) :: starEach es env := rfl
theorem starT {env : Env} {es : List Expr} {a b p} : starEach (.Tuple a b p :: es) env = (false, eval (.Tuple a b p) env) :: starEach es env := rfl
theorem starK {env : Env} {es : List Expr} {a o b p} : starEach (.Compare a o b p :: es) env = (false, eval (.Compare a o b p) env) :: starEach es env := rfl
theorem starU {env : Env} {es : List Expr} {a b p} : starEach (.UnaryOp a b p :: es) env = (false, eval (.UnaryOp a b p) env) :: starEach es env := rfl
theorem ja_nil : JA X R [] aNil := .of pa_nil fun σ H G L ρ M q x r n h hx => ⟨[], G, L, M, .refl _ _ _, r, rfl, h⟩
theorem ja_cons {e : Expr} {es : List Expr} {te : DE} {t : DA} (ha : JE X R e te) (hr : JA X R es t) (hs : starEach (e :: es) X.env = (false, eval e X.env) :: starEach es X.env := by first | exact starC | exact starN | exact starB | exact starF | exact starX | exact starT | exact starK | exact starU | rfl) : JA X R (e :: es) (aCons te t) :=
  .of (pa_cons ha hr hs) fun σ H G L ρ M q x rl n h hx => by
    refine ⟨G, L, ρ, M, _, x, rl, n, h, hx, fun v H1 ⟨d1, G1, L1, M1, e1, r1, n1, h1⟩ => ?_⟩
    refine ⟨G1, L1, ρ, M1, _, x, r1, n.mono e1, h1, hx.on e1, fun v2 H2 ⟨d2, G2, L2, M2, e2, r2, n2, h2⟩ => ?_⟩
    exact ⟨d1 :: d2, G2, L2, M2, e1.trans e2, r2, ⟨_, _, rfl, Den.mono e2.g e2.l _ _ n1, n2⟩, h2⟩
def dTup (t : DA) : DE := fun ρ M q x => t ρ M (fun ds M1 => ds.length ≤ sizeLine ∧ q (.tup ds) M1) x
def dLst (t : DA) : DE := fun ρ M q x => t ρ M (fun ds M1 => ds.length ≤ sizeLine ∧ q (.lst ds) M1) x
def dLstM (t : DA) : DE := fun ρ M q x => t ρ M (fun ds M1 => ds.length ≤ sizeLine ∧ q (.loc M1.length) (M1 ++ [.lst ds])) x
theorem fin_new {K : PySem.W.Frag} {G0 : Hp} {L0 : List Addr} {H0 G : Hp} {L : List Addr} {M : Ms} {H : Hp} {p : Addr} {o : HO} {d : Dt} {q : DQ} (e : Ex G0 L0 H0 G L H) (r : Rl K G L M H) (hp : H p = none) (hd : Den K (upd G p o) L d (.ref p)) (h : q d M) : Fin K G0 L0 H0 q (.ref p) (upd H p o) :=
  ⟨d, upd G p o, L, M, e.trans (r.exG hp), r.newG hp, hd, h⟩
theorem den_tup {K : PySem.W.Frag} {G : Hp} {L : List Addr} {M : Ms} {H : Hp} {p : Addr} {ds : List Dt} {vs : List V} (r : Rl K G L M H) (hp : H p = none) (h : DenL K G L ds vs) : Den K (upd G p (.tup vs)) L (.tup ds) (.ref p) :=
  ⟨p, vs, rfl, upd_same, DenL.mono (r.exG hp).g (.refl _) _ _ h⟩
theorem den_lst {K : PySem.W.Frag} {G : Hp} {L : List Addr} {M : Ms} {H : Hp} {p : Addr} {ds : List Dt} {vs : List V} (r : Rl K G L M H) (hp : H p = none) (h : DenL K G L ds vs) : Den K (upd G p (.lst vs)) L (.lst ds) (.ref p) :=
  ⟨p, vs, rfl, upd_same, DenL.mono (r.exG hp).g (.refl _) _ _ h⟩
theorem fin_loc {K : PySem.W.Frag} {G0 : Hp} {L0 : List Addr} {H0 G : Hp} {L : List Addr} {M : Ms} {H : Hp} {p : Addr} {q : DQ} {ds : List Dt} {vs : List V} (e : Ex G0 L0 H0 G L H) (r : Rl K G L M H) (hp : H p = none) (hd : DenL K G L ds vs) (h : q (.loc M.length) (M ++ [.lst ds])) : Fin K G0 L0 H0 q (.ref p) (upd H p (.lst vs)) :=
  ⟨.loc M.length, G, L ++ [p], M ++ [.lst ds], e.trans (r.exM hp), r.newM (m := .lst ds) hp ⟨vs, upd_same, DenL.mono (.refl _) ⟨[p], rfl⟩ _ _ hd⟩, ⟨p, rfl, by rw [← r.len, List.getElem?_append_right (Nat.le_refl _)]; simp⟩, h⟩
variable {es : List Expr} {t : DA}
theorem j_tup {x1} (h : JA X R es t) : JE X R (.Tuple es x1 pos) (dTup t) := .of (pe_tup h) fun σ H G L ρ M q x rl n h hx => by
  refine ⟨G, L, ρ, M, _, x, rl, n, h, hx, fun v H1 ⟨d1, G1, L1, M1, e1, r1, n1, h1⟩ => ⟨by rw [← n1.length]; exact h1.1, fun p hp => ?_⟩⟩
  exact fin_new e1 r1 hp (den_tup r1 hp n1) h1.2
theorem j_lst (h : JA X R es t) : JE X R (.List es pos) (dLst t) := .of (pe_lst h) fun σ H G L ρ M q x rl n h hx => by
  refine ⟨G, L, ρ, M, _, x, rl, n, h, hx, fun v H1 ⟨d1, G1, L1, M1, e1, r1, n1, h1⟩ => ⟨by rw [← n1.length]; exact h1.1, fun p hp => ?_⟩⟩
  exact fin_new e1 r1 hp (den_lst r1 hp n1) h1.2
theorem j_lstM (h : JA X R es t) : JE X R (.List es pos) (dLstM t) := .of (pe_lst h) fun σ H G L ρ M q x rl n h hx => by
  refine ⟨G, L, ρ, M, _, x, rl, n, h, hx, fun v H1 ⟨d1, G1, L1, M1, e1, r1, n1, h1⟩ => ⟨by rw [← n1.length]; exact h1.1, fun p hp => ?_⟩⟩
  exact fin_loc e1 r1 hp n1 h1.2
/-! ### tests -/
def tstD (t : DE) : DT := fun ρ M q x => t ρ M (fun d M1 => match d with
  | .bl b => q b M1
  | _ => False) x
def andT (t u : DT) : DT := fun ρ M q x => t ρ M (fun c M1 => (c = true → u ρ M1 q x) ∧ (c = false → q false M1)) x
def orT (t u : DT) : DT := fun ρ M q x => t ρ M (fun c M1 => (c = true → q true M1) ∧ (c = false → u ρ M1 q x)) x
def notT (t : DT) : DT := fun ρ M q x => t ρ M (fun c M1 => q (!c) M1) x
theorem tst_rd {K : PySem.W.Frag} {t : DE} {σ : St} {H G : Hp} {L : List Addr} {ρ : En} {M : Ms} {q : Bool → Ms → Prop} {x : DX} (rl : Rl K G L M H) (n : EnD K G L ρ σ) (h : tstD t ρ M q x) (hx : XOk K G L H R x) : tB (lowE K R t) σ H (FinT K G L H q) := by
  refine ⟨G, L, ρ, M, _, x, rl, n, h, hx, fun v H1 ⟨d1, G1, L1, M1, e1, r1, n1, h1⟩ => ?_⟩
  (try dsimp only at h1)
  split at h1
  · rename_i b
    exact ⟨b, n1, G1, L1, M1, e1, r1, h1⟩
  · exact h1.elim
theorem jt_val {e : Expr} {t : DE} (h : JE X R e t) (he : ∀ whole, isTrue e X.env whole = (do let v ← whole; standAt e.pos; holding [v] (truthy v)) := by intro _; rfl) : JT X R e (tstD t) :=
  .of (pt_val h he) fun σ H G L ρ M q x rl n h hx => tst_rd rl n h hx
theorem jt_cmp {op : CmpOp} {r : R2} {f : Dt → Dt → Ms → DQ → Prop} (ho : OpR X (compareOp op) r) (od : OpD X.K r f) (ja : JE X R a ta) (jb : JE X R b tb) (hm : behindInMarks op b = false) : JT X R (.Compare a [op] [b] pos) (tstD (dOp f ta tb)) :=
  .of (pt_cmpR ho ja jb hm) fun σ H G L ρ M q x rl n h hx => by
    have h : dOp f ta tb ρ M (fun d M1 => match d with | .bl b => q b M1 | _ => False) x := h
    refine ⟨G, L, ρ, M, _, x, rl, n, h, hx, fun v H1 ⟨d1, G1, L1, M1, e1, r1, n1, h1⟩ => ?_⟩
    refine ⟨G1, L1, ρ, M1, _, x, r1, n.mono e1, h1, hx.on e1, fun v2 H2 ⟨d2, G2, L2, M2, e2, r2, n2, h2⟩ => ?_⟩
    have := od G L H G2 L2 M2 H2 v v2 d1 d2 _ (e1.trans e2) r2 (Den.mono e2.g e2.l _ _ n1) n2 h2
    have e : (fun x H' => ∃ k, x = V.bl k ∧ FinT X.K G L H q k H') = Fin X.K G L H (fun d M1 => match d with | .bl b => q b M1 | _ => False) := by
      funext y H'
      apply propext
      constructor
      · rintro ⟨k, rfl, G3, L3, M3, e3, r3, h3⟩
        exact ⟨.bl k, G3, L3, M3, e3, r3, rfl, h3⟩
      · rintro ⟨d, G3, L3, M3, e3, r3, n3, h3⟩
        split at h3
        · rename_i k
          exact ⟨k, n3, G3, L3, M3, e3, r3, h3⟩
        · exact h3.elim
    rw [e]
    exact this
theorem JW.jt {e : Expr} {t : DT} (h : JW X R e t) : JT X R e t := h _
variable {t1 t2 : DT} {rest : List Expr}
theorem jw_and1 (ha : JT X R a t1) : JW X R (.BoolOp .And [a] pos) t1 := pw_and1 ha
theorem jw_or1 (ha : JT X R a t1) : JW X R (.BoolOp .Or [a] pos) t1 := pw_or1 ha
theorem jw_and (ha : JT X R a t1) (hb : JW X R (.BoolOp .And (b :: rest) pos) t2) : JW X R (.BoolOp .And (a :: b :: rest) pos) (andT t1 t2) := .of (pw_and ha hb) fun σ H G L ρ M q x rl n h hx => by
  refine ⟨G, L, ρ, M, _, x, rl, n, h, hx, fun c H1 ⟨G1, L1, M1, e1, r1, h1⟩ => ?_⟩
  cases c with
  | true => exact iteT ⟨G1, L1, ρ, M1, _, x, r1, n.mono e1, h1.1 rfl, hx.on e1, fun b H2 f => FinT.back e1 f⟩
  | false => exact iteF ⟨G1, L1, M1, e1, r1, h1.2 rfl⟩
theorem jw_or (ha : JT X R a t1) (hb : JW X R (.BoolOp .Or (b :: rest) pos) t2) : JW X R (.BoolOp .Or (a :: b :: rest) pos) (orT t1 t2) := .of (pw_or ha hb) fun σ H G L ρ M q x rl n h hx => by
  refine ⟨G, L, ρ, M, _, x, rl, n, h, hx, fun c H1 ⟨G1, L1, M1, e1, r1, h1⟩ => ?_⟩
  cases c with
  | true => exact iteT ⟨G1, L1, M1, e1, r1, h1.1 rfl⟩
  | false => exact iteF ⟨G1, L1, ρ, M1, _, x, r1, n.mono e1, h1.2 rfl, hx.on e1, fun b H2 f => FinT.back e1 f⟩
theorem jt_not (ha : JT X R a t1) : JT X R (.UnaryOp .Not a pos) (notT t1) := .of (pt_not ha) fun σ H G L ρ M q x rl n h hx =>
  ⟨G, L, ρ, M, _, x, rl, n, h, hx, fun _ _ f => f⟩
/-! ### and, or, not as values (bools) -/
def dAnd (t u : DE) : DE := fun ρ M q x => t ρ M (fun d M1 => match d with
  | .bl c => (c = true → u ρ M1 q x) ∧ (c = false → q (.bl false) M1)
  | _ => False) x
def dOr (t u : DE) : DE := fun ρ M q x => t ρ M (fun d M1 => match d with
  | .bl c => (c = true → q (.bl true) M1) ∧ (c = false → u ρ M1 q x)
  | _ => False) x
def dNot (t : DE) : DE := fun ρ M q x => t ρ M (fun d M1 => match d with
  | .bl c => q (.bl (!c)) M1
  | _ => False) x
def dIf (t : DT) (u v : DE) : DE := fun ρ M q x => t ρ M (fun c M1 => (c = true → u ρ M1 q x) ∧ (c = false → v ρ M1 q x)) x
theorem je_one {op} {t : DE} (h : JE X R a t) : JE X R (.BoolOp op [a] pos) t := pe_one h
theorem je_and (ha : JE X R a ta) (hb : JE X R (.BoolOp .And (b :: rest) pos) tb) : JE X R (.BoolOp .And (a :: b :: rest) pos) (dAnd ta tb) := .of (pe_and ha hb) fun σ H G L ρ M q x rl n h hx => by
  refine ⟨G, L, ρ, M, _, x, rl, n, h, hx, fun v H1 ⟨d1, G1, L1, M1, e1, r1, n1, h1⟩ => ?_⟩
  (try dsimp only at h1)
  split at h1
  · rename_i c
    refine ⟨c, n1, ?_⟩
    cases c with
    | true => exact iteT ⟨G1, L1, ρ, M1, _, x, r1, n.mono e1, h1.1 rfl, hx.on e1, fun b H2 f => Fin.back e1 f⟩
    | false => exact iteF ⟨.bl false, G1, L1, M1, e1, r1, rfl, h1.2 rfl⟩
  · exact h1.elim
theorem je_or (ha : JE X R a ta) (hb : JE X R (.BoolOp .Or (b :: rest) pos) tb) : JE X R (.BoolOp .Or (a :: b :: rest) pos) (dOr ta tb) := .of (pe_or ha hb) fun σ H G L ρ M q x rl n h hx => by
  refine ⟨G, L, ρ, M, _, x, rl, n, h, hx, fun v H1 ⟨d1, G1, L1, M1, e1, r1, n1, h1⟩ => ?_⟩
  (try dsimp only at h1)
  split at h1
  · rename_i c
    refine ⟨c, n1, ?_⟩
    cases c with
    | true => exact iteT ⟨.bl true, G1, L1, M1, e1, r1, rfl, h1.1 rfl⟩
    | false => exact iteF ⟨G1, L1, ρ, M1, _, x, r1, n.mono e1, h1.2 rfl, hx.on e1, fun b H2 f => Fin.back e1 f⟩
  · exact h1.elim
theorem je_not (ha : JE X R a ta) : JE X R (.UnaryOp .Not a pos) (dNot ta) := .of (pe_not ha) fun σ H G L ρ M q x rl n h hx => by
  refine ⟨G, L, ρ, M, _, x, rl, n, h, hx, fun v H1 ⟨d1, G1, L1, M1, e1, r1, n1, h1⟩ => ?_⟩
  (try dsimp only at h1)
  split at h1
  · rename_i c
    exact ⟨c, n1, .bl (!c), G1, L1, M1, e1, r1, rfl, h1⟩
  · exact h1.elim
theorem je_if {c : Expr} (hc : JT X R c t1) (ha : JE X R a ta) (hb : JE X R b tb) : JE X R (.IfExp c a b pos) (dIf t1 ta tb) := .of (pe_ifExp hc ha hb) fun σ H G L ρ M q x rl n h hx => by
  refine ⟨G, L, ρ, M, _, x, rl, n, h, hx, fun c H1 ⟨G1, L1, M1, e1, r1, h1⟩ => ?_⟩
  cases c with
  | true => exact iteT ⟨G1, L1, ρ, M1, _, x, r1, n.mono e1, h1.1 rfl, hx.on e1, fun b H2 f => Fin.back e1 f⟩
  | false => exact iteF ⟨G1, L1, ρ, M1, _, x, r1, n.mono e1, h1.2 rfl, hx.on e1, fun b H2 f => Fin.back e1 f⟩
end
/-! ### statements -/
def sNext : DS := fun Dn ρ M => Dn.nx ρ M
def sSeq (t u : DS) : DS := fun Dn ρ M => t { Dn with nx := u Dn } ρ M
def sIf (c : DT) (t u : DS) : DS := fun Dn ρ M => c ρ M (fun b M1 => (b = true → t Dn ρ M1) ∧ (b = false → u Dn ρ M1)) Dn.x
def sRet (t : DE) : DS := fun Dn ρ M => t ρ M Dn.rt Dn.x
def sSet (i : Nat) (t : DE) : DS := fun Dn ρ M => t ρ M (fun d M1 => Dn.nx (ρ.set i (some d)) M1) Dn.x
def sDrop (t : DE) : DS := fun Dn ρ M => t ρ M (fun _ M1 => Dn.nx ρ M1) Dn.x
/-- what the proof says of the state here -/
def sCut (t : DS) : DS := fun Dn ρ M => ∃ J : En → Ms → Prop, t { Dn with nx := J } ρ M ∧ ∀ ρ' M', J ρ' M' → Dn.nx ρ' M'
section
variable {X : Cx} {R : St → XK} {st : Stmt} {rest : List Stmt} {t u : DS} {e : Expr} {te : DE} {pos : Pos}
theorem jss_nil : JSs X R [] sNext := .of pss_nil fun σ H G L ρ M Dn rl n h hx => ⟨ρ, G, L, M, .refl _ _ _, rl, n, h⟩
theorem jss_one (h1 : JS X R st t) : JSs X R [st] t := pss_one h1
theorem jss_cons (h1 : JS X R st t) (h2 : JSs X R rest u) : JSs X R (st :: rest) (sSeq t u) := .of (pss_cons h1 h2) fun σ H G L ρ M Dn rl n h hx => by
  refine ⟨G, L, ρ, M, _, rl, n, h, hx, ⟨fun σ1 H1 ⟨ρ1, G1, L1, M1, e1, r1, n1, h1⟩ => ?_, fun _ _ f => f, fun _ _ f => f, fun _ _ f => f⟩⟩
  exact ⟨G1, L1, ρ1, M1, Dn, r1, n1, h1, hx.on e1, FinS.back e1⟩
theorem js_pass : JS X R (.Pass pos) sNext := .of ps_pass fun σ H G L ρ M Dn rl n h hx => ⟨ρ, G, L, M, .refl _ _ _, rl, n, h⟩
theorem js_break : JS X R (.Break pos) (fun Dn ρ M => Dn.bk ρ M) := .of ps_break fun σ H G L ρ M Dn rl n h hx => ⟨ρ, G, L, M, .refl _ _ _, rl, n, h⟩
theorem js_continue : JS X R (.Continue pos) (fun Dn ρ M => Dn.ct ρ M) := .of ps_continue fun σ H G L ρ M Dn rl n h hx => ⟨ρ, G, L, M, .refl _ _ _, rl, n, h⟩
theorem js_ret (he : JE X R e te) : JS X R (.Return (some e) pos) (sRet te) := .of (ps_ret he) fun σ H G L ρ M Dn rl n h hx => ⟨G, L, ρ, M, _, _, rl, n, h, hx, fun _ _ f => f⟩
theorem js_expr (he : JE X R e te) (hs : swapsWith e none pos.line X.env = pure false := by rfl) : JS X R (.Expr e pos) (sDrop te) := .of (ps_expr he hs) fun σ H G L ρ M Dn rl n h hx => by
  refine ⟨G, L, ρ, M, _, _, rl, n, h, hx, fun v H1 ⟨d1, G1, L1, M1, e1, r1, n1, h1⟩ => ⟨ρ, G1, L1, M1, e1, r1, n.mono e1, h1⟩⟩
theorem js_if {c : Expr} {a b : List Stmt} {tc : DT} (hc : JT X R c tc) (ha : JSs X R a t) (hb : JSs X R b u) : JS X R (.If c a b pos) (sIf tc t u) := .of (ps_if hc ha hb) fun σ H G L ρ M Dn rl n h hx => by
  refine ⟨G, L, ρ, M, _, _, rl, n, h, hx, fun c H1 ⟨G1, L1, M1, e1, r1, h1⟩ => ?_⟩
  cases c with
  | true => exact iteT ⟨G1, L1, ρ, M1, Dn, r1, n.mono e1, h1.1 rfl, hx.on e1, FinS.back e1⟩
  | false => exact iteF ⟨G1, L1, ρ, M1, Dn, r1, n.mono e1, h1.2 rfl, hx.on e1, FinS.back e1⟩
theorem js_set {i : Nat} {x : Str} {pos' : Pos} (hN : X.N.Nodup) (hi : X.N[i]? = some x) (hx : Loc X.env.scope x) (he : JE X R e te) (hs : swapsWith e (some (.Name x pos')) pos.line X.env = pure false := by rfl) (hf : X.fn x = true ∨ X.env.scope.names.lookup x = some .local := by first | exact .inl rfl | exact .inr rfl | assumption) :
    JS X R (.Assign [.Name x pos'] e pos) (sSet i te) := .of (ps_set hN hi hx he hs hf) fun σ H G L ρ M Dn rl n h hx => by
  refine ⟨G, L, ρ, M, _, _, rl, n, h, hx, fun v H1 ⟨d1, G1, L1, M1, e1, r1, n1, h1⟩ => ⟨_, G1, L1, M1, e1, r1, (n.mono e1).set i n1, h1⟩⟩
theorem js_cut (h : JS X R st t) : JS X R st (sCut t) := .of h fun σ H G L ρ M Dn rl n h hx => by
  obtain ⟨J, h1, h2⟩ := h
  refine ⟨G, L, ρ, M, _, rl, n, h1, hx, ⟨fun σ1 H1 ⟨ρ1, G1, L1, M1, e1, r1, n1, h1⟩ => ⟨ρ1, G1, L1, M1, e1, r1, n1, h2 _ _ h1⟩, fun _ _ f => f, fun _ _ f => f, fun _ _ f => f⟩⟩
end
end L2

namespace L2
open PySem PySem.Spec PyProof.Rows
/-! ### what a def promises, by data -/
abbrev DXF := Addr → List (Str × Dt) → Ms → Prop
abbrev DF := List Dt → Ms → DQ → DXF → Prop
def spD (K : PySem.W.Frag) (T : DF) : Sp := fun vs H Q E => ∃ G L ds M q x, Rl K G L M H ∧ DenL K G L ds vs ∧ T ds M q x ∧ (∀ v H', Fin K G L H q v H' → Q v H') ∧
  (∀ C fs M' G' L' H' od, x C fs M' → Ex G L H G' L' H' → Rl K G' L' M' H' → xRel K G' L' H' fs od → E (.ref C) od H')
def startD (N : List Str) (ds : List Dt) : En := ds.map some ++ List.replicate (N.length - ds.length) none
theorem start_en {K : PySem.W.Frag} {G : Hp} {L : List Addr} {N : List Str} {ds : List Dt} {vs : List V} (h : DenL K G L ds vs) : EnD K G L (startD N ds) (start N vs) := by
  have hl := h.length
  refine ⟨by unfold startD start; simp [hl], fun i d e => ?_⟩
  unfold startD at e
  unfold start
  by_cases hi : i < ds.length
  · rw [List.getElem?_append_left (by simpa using hi), List.getElem?_map] at e
    rw [List.getElem?_append_left (by simpa [← hl] using hi), List.getElem?_map]
    cases q : ds[i]? with
    | none => rw [q] at e; cases e
    | some d' =>
      rw [q] at e
      cases e
      obtain ⟨v, e1, h1⟩ := h.get q
      exact ⟨v, by rw [e1]; rfl, h1⟩
  · rw [List.getElem?_append_right (by simpa using Nat.le_of_not_lt hi), List.getElem?_replicate] at e
    split at e <;> cases e
section
variable {P : Program} {w : World} {K : PySem.W.Frag} {mg : Str → Option Value} {base : Heap}
theorem Fun.okD {x qual : Str} {st : Stmt} {f : Addr} {fd : FuncData} {N ps : List Str} {k : Nat} {T : DF} (F : Fun K x qual st f fd) (S : FnScope N ps (defScope st)) (len : ∀ ds M q x, T ds M q x → ds.length = ps.length)
    (hbody : ∀ (cdv : Value) (A : Around) (outer : List Env) (s : Shared) (H : Hp) (E : XK), Room k (A.deeper (envOfC qual (defScope st) s.heap.objs.size f cdv)) →
      ∃ t, JSs (cxOf (CX1 P w) P w K mg base N qual (defScope st) f cdv A outer s H E) (fun _ => E) (defBody st) t ∧ ∀ ds M q x, T ds M q x → t { nx := fun _ M' => q .non M', rt := q, x := fun _ => x } (startD N ds) M) :
    FnOk P w K mg base (CX1 P w) (k + 1) f fd ps (spD K T) := by
  refine F.okX S (fun vs H Q E h => ?_) (fun cdv A outer s H vs Q E hr h => ?_)
  · obtain ⟨G, L, ds, M, q, x, rl, n, hT, _⟩ := h
    rw [← n.length]; exact len _ _ _ _ hT
  · obtain ⟨t, j, ht⟩ := hbody cdv A outer s H E hr
    obtain ⟨G, L, ds, M, q, x, rl, n, hT, hQ, hE⟩ := h
    refine ⟨_, j, G, L, startD N ds, M, _, rl, start_en n, ht ds M q x hT, fun σ ρ C fs M' G' L' H' od hx e r _ y => hE C fs M' G' L' H' od hx e r y, ⟨fun σ' H' ⟨ρ', G', L', M', e, r, _, h⟩ => hQ _ _ ⟨.non, G', L', M', e, r, rfl, h⟩, fun v H' f => hQ v H' f, fun _ _ ⟨_, _, _, _, _, _, _, h⟩ => h.elim, fun _ _ ⟨_, _, _, _, _, _, _, h⟩ => h.elim⟩⟩
/-- a def that is called: its promise, its parameters, its name -/
structure CalD (P : Program) (w : World) (K : PySem.W.Frag) (mg : Str → Option Value) (base : Heap) (k : Nat) (x : Str) (ps : List Str) (T : DF) (f : Addr) (fd : FuncData) : Prop where
  ok : FnOk P w K mg base (CX1 P w) k f fd ps (spD K T)
  b : Binds K fd ps []
  m : mg x = some (.ref f)
  kp : PySem.W.keepIn K (.ref f) = true
theorem spD_imp {CX : CXT} {k : Nat} {f : Addr} {fd : FuncData} {ps : List Str} {T T' : DF} (F : FnOk P w K mg base CX k f fd ps (spD K T)) (h : ∀ ds M q x, T' ds M q x → T ds M q x) : FnOk P w K mg base CX k f fd ps (spD K T') :=
  F.imp fun vs H Q E ⟨G, L, ds, M, q, x, rl, n, hT, hQ, hE⟩ => ⟨G, L, ds, M, q, x, rl, n, h _ _ _ _ hT, hQ, hE⟩
end
/-! ### calls -/
def dCall (T : DF) (t : DA) : DE := fun ρ M q x => t ρ M (fun ds M1 => T ds M1 q (fun C fs M' => x ρ C fs M')) x
section
variable {X : Cx} {R : St → XK} {T : DF} {k k' : Nat} {f : Addr} {fd : FuncData} {ps : List Str} {x : Str} {p pos : Pos} {e : Expr} {es : List Expr} {t : DA}
theorem j_fn (C : CalD X.prog X.w X.K X.mg X.base k x ps T f fd) (hr : Room k' X.A) (hx : PassesR (CX1 X.prog X.w) X R) (ha : JA X R (e :: es) t) (hk : k ≤ k' := by decide) (hg : Gl X x := by rfl) (hdb : (x == ("__debug__" : Str)) = false := by decide)
    (he : starEach (e :: es) X.env = (false, eval e X.env) :: starEach es X.env := by rfl) (hpl : (backTo pos (starEach es X.env)).any (·.1) = false := by rfl) : JE X R (.Call (.Name x p) (e :: es) [] pos) (dCall T t) :=
  .of (pe_callR C.ok (hr.mono hk) hg C.m C.kp C.b .nil hx ha hdb he hpl) fun σ H G L ρ M q x rl n h hx => by
    refine ⟨G, L, ρ, M, _, x, rl, n, h, hx, fun vs H1 ⟨ds, G1, L1, M1, e1, r1, n1, h1⟩ => ?_⟩
    show spD X.K T (vs ++ []) H1 _ _
    rw [List.append_nil]
    exact ⟨G1, L1, ds, M1, q, _, r1, n1, h1, fun v H' f => Fin.back e1 f, fun C fs M' G' L' H' od hq e' r' y => hx σ ρ C fs M' G' L' H' od hq (e1.trans e') r' (n.mono (e1.trans e')) y⟩
end
/-! ### raise -/
def sRaise (C : Addr) (t : DA) : DS := fun Dn ρ M => t ρ M (fun ds M1 => ds.length ≤ sizeLine ∧ Dn.x ρ C [] M1) Dn.x
section
variable {X : Cx} {R : St → XK} {C : Addr} {t : DA} {Bn newId initId : String} {bmB : List Value} {x : Str} {np cpos pos : Pos} {e : Expr} {es : List Expr}
theorem js_raise (hR : Raises X R) (F : ExcBaseFacts Bn newId initId bmB) (c : ExcCls X.K C bmB newId) (hm : X.mg x = some (.ref C)) (ha : JA X R (e :: es) t) (hc : X.calm = true := by rfl) (hex : X.ex = [] := by rfl) (hg : Gl X x := by rfl)
    (hdb : (x == ("__debug__" : Str)) = false := by decide) (he : starEach (e :: es) X.env = (false, eval e X.env) :: starEach es X.env := by rfl) (hpl : (backTo cpos (starEach es X.env)).any (·.1) = false := by rfl) :
    JS X R (.Raise (some (.Call (.Name x np) (e :: es) [] cpos)) none pos) (sRaise C t) := .of (ps_raise hR hc hex F c hg hm ha hdb he hpl) fun σ H G L ρ M Dn rl n h hx => by
  refine ⟨G, L, ρ, M, _, _, rl, n, h, hx, fun vs H1 ⟨ds, G1, L1, M1, e1, r1, n1, h1⟩ => ⟨by rw [← n1.length]; exact h1.1, ?_⟩⟩
  exact hx σ ρ C [] M1 G1 L1 H1 none h1.2 e1 r1 (n.mono e1) (.inl ⟨rfl, rfl⟩)
end
/-! ### what is walked -/
structure Yl (K : PySem.W.Frag) (J : It) (xs : List Dt) (G0 : Hp) (L0 : List Addr) : Prop where
  go : ∀ (i : Nat) G L M H (d : Dt), Same G0 G → Pre L0 L → Rl K G L M H → xs[i]? = some d → J.go i H ∧ ∀ v H', J.yld i H v H' → ∃ G', Ex G L H G' L H' ∧ Rl K G' L M H' ∧ Den K G' L d v
  stop : ∀ (i : Nat) G L M H, Same G0 G → Pre L0 L → Rl K G L M H → xs.length ≤ i → J.stop i H
def FinJ (K : PySem.W.Frag) (G0 : Hp) (L0 : List Addr) (H0 : Hp) (q : List Dt → Ms → Prop) : It → Hp → Prop := fun J H => ∃ xs G L M, Ex G0 L0 H0 G L H ∧ Rl K G L M H ∧ Yl K J xs G L ∧ q xs M
def lowI (K : PySem.W.Frag) (R : St → XK) (t : DA) : TI := fun σ H Q => ∃ G L ρ M q x, Rl K G L M H ∧ EnD K G L ρ σ ∧ t ρ M q x ∧ XOk K G L H R x ∧ ∀ J H1, FinJ K G L H q J H1 → Q J H1
def JI (X : Cx) (R : St → XK) (tg iter : Expr) (t : DA) : Prop := PI X tg iter (lowI X.K R t)
theorem PIE.imp {X : Cx} {pins : List (Addr × Obj)} {σ : St} {tg : Expr} {R R' : It → Hp → Prop} (hR : ∀ J H, R J H → R' J H) {v : Value} {s : Shared} (h : PIE X pins σ tg R v s) : PIE X pins σ tg R' v s := by
  obtain ⟨it, fp, tn, J, H', a, b, c, d, e, f⟩ := h
  exact ⟨it, fp, tn, J, H', a, b, c, d, e, hR J H' f⟩
theorem yl_list {K : PySem.W.Frag} {G : Hp} {L : List Addr} {a : Addr} {ds : List Dt} {vs : List V} (h : ∀ G' : Hp, Same G G' → SqL K G' a vs) (n : DenL K G L ds vs) : Yl K (Itl K a) ds G L where
  go := fun i G1 L1 M1 H1 d g l r e => by
    obtain ⟨v, e1, n1⟩ := n.get e
    have hs := h H1 (g.trans r.sub)
    exact ⟨⟨vs, v, hs, e1⟩, fun v' H' ⟨eH, y⟩ => by
      subst eH
      have e2 := y vs hs
      rw [e1] at e2; cases e2
      exact ⟨G1, .refl _ _ _, r, Den.mono g l _ _ n1⟩⟩
  stop := fun i G1 L1 M1 H1 g l r e => ⟨vs, h H1 (g.trans r.sub), by rw [← n.length]; exact e⟩
theorem yl_tup {K : PySem.W.Frag} {G : Hp} {L : List Addr} {a : Addr} {ds : List Dt} {vs : List V} (h : ∀ G' : Hp, Same G G' → SqT K G' a vs) (n : DenL K G L ds vs) : Yl K (Itt K a) ds G L where
  go := fun i G1 L1 M1 H1 d g l r e => by
    obtain ⟨v, e1, n1⟩ := n.get e
    have hs := h H1 (g.trans r.sub)
    exact ⟨⟨vs, v, hs, e1⟩, fun v' H' ⟨eH, y⟩ => by
      subst eH
      have e2 := y vs hs
      rw [e1] at e2; cases e2
      exact ⟨G1, .refl _ _ _, r, Den.mono g l _ _ n1⟩⟩
  stop := fun i G1 L1 M1 H1 g l r e => ⟨vs, h H1 (g.trans r.sub), by rw [← n.length]; exact e⟩
def rngD (lo : Int) (n : Nat) : List Dt := (List.range n).map fun k : Nat => Dt.int (lo + (k : Int))
theorem yl_rng {K : PySem.W.Frag} {G : Hp} {L : List Addr} {lo : Int} {n : Nat} : Yl K (Itr lo n) (rngD lo n) G L where
  go := fun i G1 L1 M1 H1 d g l r e => by
    unfold rngD at e
    rw [List.getElem?_map] at e
    have hi : i < n := by
      cases q : (List.range n)[i]? with
      | none => rw [q] at e; cases e
      | some j =>
        have := (List.getElem?_eq_some_iff.mp q).1
        rwa [List.length_range] at this
    rw [List.getElem?_range hi] at e
    cases e
    exact ⟨hi, fun v' H' ⟨eH, y⟩ => by subst eH y; exact ⟨G1, .refl _ _ _, r, rfl⟩⟩
  stop := fun i G1 L1 M1 H1 g l r e => by show n ≤ i; unfold rngD at e; simpa using e
section
variable {X : Cx} {R : St → XK} {tg iter : Expr}
theorem JI.of {wi : TI} {t : DA} (h : PI X tg iter wi) (hw : ∀ σ H G L ρ M q x, Rl X.K G L M H → EnD X.K G L ρ σ → t ρ M q x → XOk X.K G L H R x → wi σ H (FinJ X.K G L H q)) : JI X R tg iter t := by
  intro pins s σ H Q I ⟨G, L, ρ, M, q, x, r, n, ht, hx, hQ⟩
  exact thn (h pins s σ H _ I (hw σ H G L ρ M q x r n ht hx)) fun u s1 f => thn f fun u2 s2 f2 => PIE.imp hQ f2
def iRng (t : DA) : DA := fun ρ M q x => t ρ M (fun ds M1 => match ds with
  | [.int j] => (-(2 ^ 62) ≤ j ∧ j < 2 ^ 62) ∧ q (rngD 0 j.toNat) M1
  | _ => False) x
theorem ji_range {a : Expr} {t : DA} {p pos : Pos} (hm : X.mg "range" = none) (ha : JA X R [a] t) (hg : Gl X "range" := by rfl) (hs : starEach [a] X.env = [(false, eval a X.env)] := by rfl) : JI X R tg (.Call (.Name "range" p) [a] [] pos) (iRng t) :=
  .of (pi_range1 hg hm ha hs) fun σ H G L ρ M q x rl n h hx => by
    refine ⟨G, L, ρ, M, _, x, rl, n, h, hx, fun vs H1 ⟨ds, G1, L1, M1, e1, r1, n1, h1⟩ => ?_⟩
    (try dsimp only at h1)
    split at h1
    · rename_i j
      obtain ⟨v, rfl, n2⟩ := denL_one n1
      have n2 : v = .int j := n2
      subst n2
      exact ⟨j, rfl, h1.1.1, h1.1.2, _, G1, L1, M1, e1, r1, yl_rng, h1.2⟩
    · exact h1.elim
def iRng2D (t : DA) : DA := fun ρ M q x => t ρ M (fun ds M1 => match ds with
  | [.int i, .int j] => (-(2 ^ 62) ≤ i ∧ i < 2 ^ 62 ∧ -(2 ^ 62) ≤ j ∧ j < 2 ^ 62) ∧ q (rngD i (j - i).toNat) M1
  | _ => False) x
theorem ji_range2 {a b : Expr} {t : DA} {p pos : Pos} (hm : X.mg "range" = none) (ha : JA X R [a, b] t) (hg : Gl X "range" := by rfl) (hs : starEach [a, b] X.env = [(false, eval a X.env), (false, eval b X.env)] := by rfl) (hs2 : starEach [b] X.env = [(false, eval b X.env)] := by rfl) :
    JI X R tg (.Call (.Name "range" p) [a, b] [] pos) (iRng2D t) :=
  .of (pi_range2 hg hm ha hs hs2) fun σ H G L ρ M q x rl n h hx => by
    refine ⟨G, L, ρ, M, _, x, rl, n, h, hx, fun vs H1 ⟨ds, G1, L1, M1, e1, r1, n1, h1⟩ => ?_⟩
    (try dsimp only at h1)
    split at h1
    · rename_i i j
      obtain ⟨v, u, rfl, n3, n2⟩ := denL_two n1
      have n3 : v = .int i := n3
      have n2 : u = .int j := n2
      subst n3 n2
      exact ⟨i, j, rfl, h1.1, _, G1, L1, M1, e1, r1, yl_rng, h1.2⟩
    · exact h1.elim
end
/-! ### for -/
def GD (K : PySem.W.Frag) (gg : TG) (g : Dt → En → (En → Prop) → Prop) : Prop :=
  ∀ G L M H d v ρ σ (k : En → Prop) (Q : St → Hp → Prop), Rl K G L M H → Den K G L d v → EnD K G L ρ σ → g d ρ k → (∀ ρ' σ', EnD K G L ρ' σ' → k ρ' → Q σ' H) → gg v σ H Q
def gN (i : Nat) : Dt → En → (En → Prop) → Prop := fun d ρ k => k (ρ.set i (some d))
theorem gd_name {K : PySem.W.Frag} {i : Nat} : GD K (gName i) (gN i) := fun G L M H d v ρ σ k Q rl n en h hQ => hQ _ _ (en.set i n) h
def g2 (i j : Nat) : Dt → En → (En → Prop) → Prop := fun d ρ k => match d with
  | .tup [a, b] => k ((ρ.set i (some a)).set j (some b))
  | _ => False
theorem gd_two {K : PySem.W.Frag} {i j : Nat} : GD K (gTup K 2 (gCons (gName i) (gCons (gName j) gNil))) (g2 i j) := fun G L M H d v ρ σ k Q rl n en h hQ => by
  unfold g2 at h
  split at h
  · rename_i a b
    obtain ⟨p, vs, rfl, e, n⟩ := n
    obtain ⟨v1, v2, rfl, n1, n2⟩ := denL_two n
    exact ⟨p, _, rfl, .inl (.inl (rl.sub _ _ e)), rfl, v1, _, rfl, v2, _, rfl, rfl, hQ _ _ ((en.set i n1).set j n2) h⟩
  · exact h.elim
def forD (g : Dt → En → (En → Prop) → Prop) (tb : DS) (Dn : DEnds) : List Dt → En → Ms → Prop
  | [], ρ, M => Dn.nx ρ M
  | x :: xs, ρ, M => g x ρ fun ρ' => tb { Dn with nx := forD g tb Dn xs, ct := forD g tb Dn xs, bk := Dn.nx } ρ' M
def sFor (ti : DA) (g : Dt → En → (En → Prop) → Prop) (tb : DS) : DS := fun Dn ρ M => ti ρ M (fun xs M1 => forD g tb Dn xs ρ M1) Dn.x
section
variable {X : Cx} {R : St → XK} {tg iter : Expr} {body : List Stmt} {ti : DA} {gg : TG} {g : Dt → En → (En → Prop) → Prop} {tb : DS} {pos : Pos}
theorem js_for (hi : JI X R tg iter ti) (hg : PG X tg gg) (gd : GD X.K gg g) (hb : JSs X R body tb) (hp : PassesOwn (model X.prog X.w) X.A X.env X.xe := by first | exact PassesOwn.never | exact PassesOwn.leaving) (hc : X.calm = true := by rfl) (hs : ∀ x, foldedSetIterable iter X.env x = pure x := by intro _; rfl) :
    JS X R (.For tg iter body [] pos) (sFor ti g tb) := .of (ps_for hp hc hi hg hb hs) fun σ H G L ρ M Dn rl n h hx => by
  refine ⟨G, L, ρ, M, _, _, rl, n, h, hx, fun J H1 ⟨xs, G1, L1, M1, e1, r1, y, h1⟩ => ?_⟩
  refine ⟨fun i m σ' H' => m + i = xs.length ∧ FinN X.K G1 L1 H1 (fun ρ' M' => forD g tb Dn (xs.drop i) ρ' M') σ' H', ⟨xs.length, rfl, ρ, G1, L1, M1, .refl _ _ _, r1, n.mono e1, by rw [List.drop_zero]; exact h1⟩, ?_⟩
  rintro i m σ' H' ⟨hm, ρ', G', L', M', e', r', n', h'⟩
  by_cases hi : i < xs.length
  · right
    have hd : xs[i]? = some xs[i] := List.getElem?_eq_getElem hi
    obtain ⟨go, yl⟩ := y.go i G' L' M' H' _ e'.g e'.l r' hd
    rw [List.drop_eq_getElem_cons hi] at h'
    refine ⟨go, FinN X.K G1 L1 H1 (fun ρ' M' => forD g tb Dn (xs.drop (i + 1)) ρ' M'), fun σ2 H2 f => ⟨m - 1, by omega, by omega, f⟩, fun v H2 hy => ?_⟩
    obtain ⟨G2, e2, r2, n2⟩ := yl v H2 hy
    refine gd G2 L' M' H2 _ v ρ' σ' _ _ r2 n2 (n'.mono e2) h' fun ρ3 σ3 n3 h3 => ?_
    refine ⟨G2, L', ρ3, M', _, r2, n3, h3, hx.on (e1.trans (e'.trans e2)), ⟨fun _ _ f => FinN.back (e'.trans e2) f, fun _ _ f => Fin.back (e1.trans (e'.trans e2)) f, fun _ _ f => FinN.back (e1.trans (e'.trans e2)) f, fun _ _ f => FinN.back (e'.trans e2) f⟩⟩
  · left
    refine ⟨y.stop i G' L' M' H' e'.g e'.l r' (by omega), ρ', G', L', M', e1.trans e', r', n', ?_⟩
    rw [List.drop_eq_nil_of_le (by omega)] at h'
    exact h'
end
/-! ### comprehensions -/
def capD (caps : List Nat) (ρ : En) : En := caps.map fun i => (ρ[i]?).join
theorem cap_en {K : PySem.W.Frag} {G : Hp} {L : List Addr} {ρ : En} {σ : St} (h : EnD K G L ρ σ) (caps : List Nat) {d : Dt} {v : V} (n : Den K G L d v) : EnD K G L (some d :: capD caps ρ) (some v :: capV caps σ) := by
  refine ⟨by unfold capD capV; simp, fun i d' e => ?_⟩
  cases i with
  | zero => cases e; exact ⟨v, rfl, n⟩
  | succ j =>
    have e : (capD caps ρ)[j]? = some (some d') := e
    show ∃ v', (capV caps σ)[j]? = some (some v') ∧ _
    unfold capD at e
    unfold capV
    rw [List.getElem?_map] at e ⊢
    cases q : caps[j]? with
    | none => rw [q] at e; cases e
    | some i =>
      rw [q] at e
      have e : (ρ[i]?).join = some d' := Option.some.inj e
      have e : ρ[i]? = some (some d') := by
        cases q2 : ρ[i]? with
        | none => rw [q2] at e; cases e
        | some o => rw [q2] at e; exact congrArg some e
      obtain ⟨v', e1, n1⟩ := h.ats i d' e
      exact ⟨v', by show some ((σ[i]?).join) = _; rw [e1]; rfl, n1⟩
def compD (te : DE) (cs : En) : List Dt → List Dt → Ms → (List Dt → Ms → Prop) → Prop
  | [], acc, M, k => k acc M
  | x :: xs, acc, M, k => te (some x :: cs) M (fun d M1 => compD te cs xs (acc ++ [d]) M1 k) noX
def dComp (ti : DA) (te : DE) (caps : List Nat) : DE := fun ρ M q x => ti ρ M (fun xs M1 => xs.length ≤ sizeLine ∧ compD te (capD caps ρ) xs [] M1 (fun ys M2 => q (.lst ys) M2)) x
def dCompM (ti : DA) (te : DE) (caps : List Nat) : DE := fun ρ M q x => ti ρ M (fun xs M1 => xs.length ≤ sizeLine ∧ compD te (capD caps ρ) xs [] M1 (fun ys M2 => q (.loc M2.length) (M2 ++ [.lst ys]))) x
/-- the turns of a comprehension, by data: Q is wanted of the list at Dl, which stands outside all that is known -/
theorem comp_rd {K : PySem.W.Frag} {J : It} {te : DE} {caps : List Nat} {ρ : En} {σ : St} {G1 : Hp} {L1 : List Addr} {M1 : Ms} {H1 : Hp} {xs : List Dt} {Dl : Addr} {Q : VK} {k : List Dt → Ms → Prop} (r1 : Rl K G1 L1 M1 H1) (n : EnD K G1 L1 ρ σ) (y : Yl K J xs G1 L1) (hD : H1 Dl = none) (hz : xs.length ≤ sizeLine)
    (h : compD te (capD caps ρ) xs [] M1 k)
    (fin : ∀ G2 L2 M2 H2 ds vs, Ex G1 L1 H1 G2 L2 H2 → Rl K G2 L2 M2 H2 → G2 Dl = none → Dl ∉ L2 → H2 Dl = some (.lst vs) → DenL K G2 L2 ds vs → k ds M2 → Q (.ref Dl) H2) :
    CompR J (lowE K (fun _ => E0) te) (capV caps σ) Q H1 Dl := by
  refine ⟨fun i m ys H2 => m + i = xs.length ∧ H2 Dl = some (.lst ys) ∧ ∃ acc G2 L2 M2, Ex G1 L1 H1 G2 L2 H2 ∧ Rl K G2 L2 M2 H2 ∧ G2 Dl = none ∧ Dl ∉ L2 ∧ DenL K G2 L2 acc ys ∧ acc.length = i ∧ compD te (capD caps ρ) (xs.drop i) acc M2 k, ⟨xs.length, rfl, upd_same, [], G1, L1, M1, ?_⟩, ?_⟩
  · have gn : G1 Dl = none := r1.sub.free hD
    refine ⟨⟨.refl _, .refl _, fun _ h _ => h, fun b u h1 _ => by rw [upd_ne (fun z => by rw [z, hD] at h1; cases h1)]; exact h1, fun _ h => .inl h, fun b h => by rw [upd_ne (fun z => h (by rw [z]; exact hD))]; exact h⟩, ⟨fun b u e => by rw [upd_ne (fun z => by rw [z, gn] at e; cases e)]; exact r1.sub b u e, r1.len, r1.nd, fun i a m h1 h2 => ?_⟩, gn, r1.memN hD, rfl, rfl, by rw [List.drop_zero]; exact h⟩
    obtain ⟨q1, q2⟩ := r1.ats i a m h1 h2
    exact ⟨q1, q2.mono (.refl _) (.refl _) (upd_ne fun z => q2.there (by rw [z]; exact hD))⟩
  · rintro i m ys H2 ⟨hm, hacc, acc, G2, L2, M2, e2, r2, g2, l2, n2, la, h2⟩
    refine ⟨hacc, ?_⟩
    by_cases hi : i < xs.length
    · right
      have hd : xs[i]? = some xs[i] := List.getElem?_eq_getElem hi
      obtain ⟨go, yl⟩ := y.go i G2 L2 M2 H2 _ e2.g e2.l r2 hd
      rw [List.drop_eq_getElem_cons hi] at h2
      refine ⟨go, fun v H3 hy => ?_⟩
      obtain ⟨G3, e3, r3, n3⟩ := yl v H3 hy
      refine ⟨G3, L2, _, M2, _, noX, r3, cap_en ((n.mono e2).mono e3) caps n3, h2, xok_no, fun v4 H4 ⟨d4, G4, L4, M4, e4, r4, n4, h4⟩ => ?_⟩
      have l3 : Dl ∉ L2 := l2
      have h3 : H3 Dl = some (.lst ys) := e3.out _ _ hacc l2
      have g3 : G3 Dl = none := e3.fr _ g2 (by rw [hacc]; simp)
      have h4' : H4 Dl = some (.lst ys) := e4.out _ _ h3 l2
      have g4 : G4 Dl = none := e4.fr _ g3 (by rw [h3]; simp)
      have l4 : Dl ∉ L4 := fun z => (e4.new _ z).elim l2 fun q => by rw [h3] at q; cases q
      have e24 := e3.trans e4
      have lenys : ys.length = i := by rw [← n2.length]; exact la
      have ne1 : ∀ {b : Addr} {u : HO}, H1 b = some u → b ≠ Dl := fun e z => by rw [z, hD] at e; cases e
      refine ⟨h4', by omega, m - 1, by omega, by omega, upd_same, acc ++ [d4], G4, L4, M4, ?_, ?_, g4, l4, (DenL.mono e24.g e24.l _ _ n2).app ⟨_, _, rfl, n4, rfl⟩, by rw [List.length_append, la]; rfl, h4⟩
      · have e14 := e2.trans e24
        exact ⟨e14.g, e14.l, e14.fr, fun b u h1 h2 => by rw [upd_ne (ne1 h1)]; exact e14.out b u h1 h2, e14.new, fun b h => by
          by_cases hb : b = Dl
          · rw [hb, upd_same]; simp
          · rw [upd_ne hb]; exact e14.dom b h⟩
      · refine ⟨fun b u e => by rw [upd_ne (fun z => by rw [z, g4] at e; cases e)]; exact r4.sub b u e, r4.len, r4.nd, fun i a m h1 h2 => ?_⟩
        obtain ⟨q1, q2⟩ := r4.ats i a m h1 h2
        exact ⟨q1, q2.mono (.refl _) (.refl _) (upd_ne fun z => l4 (by rw [← z]; exact List.mem_of_getElem? h1))⟩
    · left
      rw [List.drop_eq_nil_of_le (by omega)] at h2
      exact ⟨y.stop i G2 L2 M2 H2 e2.g e2.l r2 (by omega), fin G2 L2 M2 H2 acc ys e2 r2 g2 l2 hacc n2 h2⟩
section
variable {K : PySem.W.Frag} {G1 : Hp} {L1 : List Addr} {H1 G : Hp} {L : List Addr} {M : Ms} {H : Hp} {p : Addr} {ds : List Dt} {vs : List V} {q : DQ}
/-- a list that nobody holds is taken as it stands, or as one that may change -/
theorem own_val (e : Ex G1 L1 H1 G L H) (r : Rl K G L M H) (hp1 : H1 p = none) (hg : G p = none) (hl : p ∉ L) (h : H p = some (.lst vs)) (n : DenL K G L ds vs) (k : q (.lst ds) M) : Fin K G1 L1 H1 q (.ref p) H := by
  have g1 : Same G (upd G p (.lst vs)) := fun b u e => by rw [upd_ne (fun z => by rw [z, hg] at e; cases e)]; exact e
  refine ⟨.lst ds, upd G p (.lst vs), L, M, ⟨e.g.trans g1, e.l, fun b h1 h2 => ?_, e.out, e.new, e.dom⟩, ⟨fun b u e => ?_, r.len, r.nd, fun k a m h1 h2 => ?_⟩, ⟨p, vs, rfl, upd_same, DenL.mono g1 (.refl _) _ _ n⟩, k⟩
  · rw [upd_ne (fun z => h2 (by rw [z]; exact hp1))]; exact e.fr b h1 h2
  · by_cases hb : b = p
    · rw [hb, upd_same] at e; rw [hb]; cases e; exact h
    · rw [upd_ne hb] at e; exact r.sub b u e
  · obtain ⟨q1, q2⟩ := r.ats k a m h1 h2
    have hb : a ≠ p := fun z => hl (by rw [← z]; exact List.mem_of_getElem? h1)
    exact ⟨by rw [upd_ne hb]; exact q1, q2.mono g1 (.refl _) rfl⟩
theorem own_loc (e : Ex G1 L1 H1 G L H) (r : Rl K G L M H) (hp1 : H1 p = none) (hg : G p = none) (hl : p ∉ L) (h : H p = some (.lst vs)) (n : DenL K G L ds vs) (k : q (.loc M.length) (M ++ [.lst ds])) : Fin K G1 L1 H1 q (.ref p) H := by
  refine ⟨.loc M.length, G, L ++ [p], M ++ [.lst ds], ⟨e.g, e.l.trans ⟨[p], rfl⟩, e.fr, e.out, fun b hb => ?_, e.dom⟩, ⟨r.sub, by rw [List.length_append, List.length_append, r.len]; rfl, List.nodup_append.mpr ⟨r.nd, by simp, fun a ha b hb => ?_⟩, fun k a m h1 h2 => ?_⟩, ⟨p, rfl, by rw [← r.len, List.getElem?_append_right (Nat.le_refl _)]; simp⟩, k⟩
  · rcases List.mem_append.mp hb with z | z
    · exact e.new b z
    · have e : b = p := by simpa using z
      right; rw [e]; exact hp1
  · have e : b = p := by simpa using hb
    rw [e]; exact fun z => hl (z ▸ ha)
  · by_cases hk : k < L.length
    · rw [List.getElem?_append_left hk] at h1
      rw [List.getElem?_append_left (by rw [← r.len]; exact hk)] at h2
      obtain ⟨q1, q2⟩ := r.ats k a m h1 h2
      exact ⟨q1, q2.mono (.refl _) ⟨[p], rfl⟩ rfl⟩
    · have e : k = L.length := by
        have := (List.getElem?_eq_some_iff.mp h1).1
        rw [List.length_append] at this
        simp at this
        omega
      rw [e, List.getElem?_append_right (Nat.le_refl _)] at h1
      rw [e, r.len, List.getElem?_append_right (Nat.le_refl _)] at h2
      simp at h1 h2
      subst h1 h2
      exact ⟨hg, vs, h, DenL.mono (.refl _) ⟨[p], rfl⟩ _ _ n⟩
end
section
variable {X : Cx} {R : St → XK} {elt iter : Expr} {x : Str} {px : Pos} {scope : Scope} {pos : Pos} {ti : DA} {te : DE} {ys : List Str} {caps : List Nat}
theorem j_comp (S : CompScope X scope x ys caps) (hi : JI X R (.Name x px) iter ti) (he : ∀ C s H fp, JE (Cx.comp X (x :: ys) scope C s H fp) (fun _ => E0) elt te) (hc : X.calm = true := by rfl) (hs : ∀ x, foldedSetIterable iter X.env x = pure x := by intro _; rfl) :
    JE X R (.ListComp elt [⟨.Name x px, iter, [], 0⟩] scope pos) (dComp ti te caps) := .of (pe_comp (wi := lowI X.K R ti) (te := lowE X.K (fun _ => E0) te) S hc hi he hs) fun σ H G L ρ M q x rl n h hx => by
  refine ⟨G, L, ρ, M, _, x, rl, n, h, hx, fun J H1 ⟨xs, G1, L1, M1, e1, r1, y, hz, h1⟩ D hD => ?_⟩
  exact comp_rd r1 (n.mono e1) y hD hz h1 fun G2 L2 M2 H2 ds vs e2 r2 g2 l2 h2 n2 k => Fin.back e1 (own_val e2 r2 hD g2 l2 h2 n2 k)
theorem j_compM (S : CompScope X scope x ys caps) (hi : JI X R (.Name x px) iter ti) (he : ∀ C s H fp, JE (Cx.comp X (x :: ys) scope C s H fp) (fun _ => E0) elt te) (hc : X.calm = true := by rfl) (hs : ∀ x, foldedSetIterable iter X.env x = pure x := by intro _; rfl) :
    JE X R (.ListComp elt [⟨.Name x px, iter, [], 0⟩] scope pos) (dCompM ti te caps) := .of (pe_comp (wi := lowI X.K R ti) (te := lowE X.K (fun _ => E0) te) S hc hi he hs) fun σ H G L ρ M q x rl n h hx => by
  refine ⟨G, L, ρ, M, _, x, rl, n, h, hx, fun J H1 ⟨xs, G1, L1, M1, e1, r1, y, hz, h1⟩ D hD => ?_⟩
  exact comp_rd r1 (n.mono e1) y hD hz h1 fun G2 L2 M2 H2 ds vs e2 r2 g2 l2 h2 n2 k => Fin.back e1 (own_loc e2 r2 hD g2 l2 h2 n2 k)
/-- name = [..] -/
def sSetC (i : Nat) (t : DE) : DS := fun Dn ρ M => t ρ M (fun d M1 => Dn.nx (ρ.set i (some d)) M1) Dn.x
theorem js_setcomp {i : Nat} {y : Str} {py spos : Pos} (hN : X.N.Nodup) (hiy : X.N[i]? = some y) (hy : Loc X.env.scope y) (S : CompScope X scope x ys caps) (hi : JI X R (.Name x px) iter ti) (he : ∀ C s H fp, JE (Cx.comp X (x :: ys) scope C s H fp) (fun _ => E0) elt te) (hc : X.calm = true := by rfl)
    (hsw : swapsWith (.ListComp elt [⟨.Name x px, iter, [], 0⟩] scope pos) (some (.Name y py)) spos.line X.env = pure true := by rfl) (hs : ∀ x, foldedSetIterable iter X.env x = pure x := by intro _; rfl)
    (hf : X.fn y = true ∨ X.env.scope.names.lookup y = some .local := by first | exact .inl rfl | exact .inr rfl | assumption) :
    JS X R (.Assign [.Name y py] (.ListComp elt [⟨.Name x px, iter, [], 0⟩] scope pos) spos) (sSet i (dComp ti te caps)) := .of (ps_setcomp (wi := lowI X.K R ti) (te := lowE X.K (fun _ => E0) te) hN hiy hy S hc hi he hsw hs hf) fun σ H G L ρ M Dn rl n h hx => by
  refine ⟨G, L, ρ, M, _, _, rl, n, h, hx, fun J H1 ⟨xs, G1, L1, M1, e1, r1, y, hz, h1⟩ D hD => ?_⟩
  refine comp_rd r1 (n.mono e1) y hD hz h1 fun G2 L2 M2 H2 ds vs e2 r2 g2 l2 h2 n2 k => ?_
  obtain ⟨d, G3, L3, M3, e3, r3, n3, h3⟩ := own_val (q := fun d M => Dn.nx (ρ.set i (some d)) M) e2 r2 hD g2 l2 h2 n2 k
  exact ⟨_, G3, L3, M3, e1.trans e3, r3, ((n.mono e1).mono e3).set i n3, h3⟩
end
end L2

namespace L2
open PySem PySem.Spec PyProof.Rows
/-! ### operations by data -/
theorem fin_same {K : PySem.W.Frag} {G0 : Hp} {L0 : List Addr} {H0 G : Hp} {L : List Addr} {M : Ms} {H : Hp} {d : Dt} {v : V} {q : DQ} (e : Ex G0 L0 H0 G L H) (r : Rl K G L M H) (n : Den K G L d v) (h : q d M) : Fin K G0 L0 H0 q v H := ⟨d, G, L, M, e, r, n, h⟩
theorem fin_v {K : PySem.W.Frag} {G0 : Hp} {L0 : List Addr} {H0 G : Hp} {L : List Addr} {M : Ms} {H : Hp} {d : Dt} {v : V} {q : DQ} (e : Ex G0 L0 H0 G L H) (r : Rl K G L M H) (h : q d M) (n : Den K G L d v := by rfl) : Fin K G0 L0 H0 q v H := ⟨d, G, L, M, e, r, n, h⟩
def fAdd : Dt → Dt → Ms → DQ → Prop
  | .int i, .int j, M, q => q (.int (i + j)) M
  | .str a, .str b, M, q => a.length + b.length ≤ sizeLine ∧ q (.str (a ++ b)) M
  | .lst a, .lst b, M, q => a.length + b.length ≤ sizeLine ∧ q (.lst (a ++ b)) M
  | .tup a, .tup b, M, q => (a ≠ [] ∧ a.length + b.length ≤ sizeLine) ∧ q (.tup (a ++ b)) M
  | _, _, _, _ => False
def fSub : Dt → Dt → Ms → DQ → Prop
  | .int i, .int j, M, q => q (.int (i - j)) M
  | _, _, _, _ => False
def fMul : Dt → Dt → Ms → DQ → Prop
  | .int i, .int j, M, q => (Big i ∧ Big j) ∧ q (.int (i * j)) M
  | .lst a, .int k, M, q => (-(2 ^ 63) ≤ k ∧ k < 2 ^ 63 ∧ a.length * k.toNat ≤ sizeLine) ∧ q (.lst (List.replicate k.toNat a).flatten) M
  | _, _, _, _ => False
/-- by a number above 0 -/
def fDiv : Dt → Dt → Ms → DQ → Prop
  | .int i, .int j, M, q => (0 < j ∧ Big j) ∧ q (.int (i / j)) M
  | _, _, _, _ => False
def fDivN : Dt → Dt → Ms → DQ → Prop
  | .int i, .int j, M, q => (j ≠ 0 ∧ Big j) ∧ q (.int (i.fdiv j)) M
  | _, _, _, _ => False
def fMod : Dt → Dt → Ms → DQ → Prop
  | .int i, .int j, M, q => 0 < j ∧ q (.int (i % j)) M
  | _, _, _, _ => False
def fPow : Dt → Dt → Ms → DQ → Prop
  | .int i, .int j, M, q => CPow i j ∧ q (.int (i ^ j.toNat)) M
  | _, _, _, _ => False
def fNeg : Dt → Ms → DQ → Prop
  | .int i, M, q => q (.int (-i)) M
  | _, _, _ => False
section
variable {K : PySem.W.Frag}
theorem opd_of {r : R2} {f : Dt → Dt → Ms → DQ → Prop} (h : ∀ G0 L0 H0 G L M H v1 v2 d1 d2 q, Ex G0 L0 H0 G L H → Rl K G L M H → Den K G L d1 v1 → Den K G L d2 v2 → f d1 d2 M q → r v1 v2 H (Fin K G0 L0 H0 q)) : OpD K r f := h
theorem catD : OpD K (fun x y H Q => (∃ i j, x = V.int i ∧ y = .int j ∧ Q (.int (i + j)) H) ∨ (∃ i j, x = V.str i ∧ y = .str j ∧ i.length + j.length ≤ sizeLine ∧ Q (.str (i ++ j)) H) ∨ rCat x y H Q ∨ rCatT K x y H Q) fAdd := by
  intro G0 L0 H0 G L M H v1 v2 d1 d2 q e r n1 n2 h
  unfold fAdd at h
  split at h
  · rename_i i j
    exact .inl ⟨i, j, n1, n2, fin_v e r h⟩
  · rename_i a b
    exact .inr (.inl ⟨a, b, n1, n2, h.1, fin_v e r h.2⟩)
  · rename_i a b
    obtain ⟨p1, w1, rfl, e1, m1⟩ := n1
    obtain ⟨p2, w2, rfl, e2, m2⟩ := n2
    refine .inr (.inr (.inl ⟨p1, p2, w1, w2, rfl, rfl, r.sub _ _ e1, r.sub _ _ e2, by rw [← m1.length, ← m2.length]; exact h.1, fun p hp => ?_⟩))
    exact fin_new e r hp (den_lst r hp (m1.app m2)) h.2
  · rename_i a b
    obtain ⟨p1, w1, rfl, e1, m1⟩ := n1
    obtain ⟨p2, w2, rfl, e2, m2⟩ := n2
    have ne : w1 ≠ [] := fun z => h.1.1 (by have := m1.length; rw [z] at this; exact List.eq_nil_of_length_eq_zero this)
    refine .inr (.inr (.inr ⟨p1, p2, w1, w2, rfl, rfl, .inl (.inl (r.sub _ _ e1)), .inl (.inl (r.sub _ _ e2)), ne, by rw [← m1.length, ← m2.length]; exact h.1.2, fun z => ?_, fun _ p hp => ?_⟩))
    · have hb : b = [] := by have := m2.length; rw [z] at this; exact List.eq_nil_of_length_eq_zero this
      subst hb
      rw [List.append_nil] at h
      exact fin_same (d := .tup a) e r ⟨p1, w1, rfl, e1, m1⟩ h.2
    · exact fin_new e r hp (den_tup r hp (m1.app m2)) h.2
  · exact h.elim
theorem subD : OpD K (rI0 fun i j => .int (i - j)) fSub := by
  intro G0 L0 H0 G L M H v1 v2 d1 d2 q e r n1 n2 h
  unfold fSub at h
  split at h
  · exact ⟨_, _, n1, n2, fin_v e r h⟩
  · exact h.elim
theorem mulD : OpD K (fun x y H Q => (rI (fun i j => Big i ∧ Big j) fun i j => .int (i * j)) x y H Q ∨ rRep x y H Q) fMul := by
  intro G0 L0 H0 G L M H v1 v2 d1 d2 q e r n1 n2 h
  unfold fMul at h
  split at h
  · exact .inl ⟨_, _, n1, n2, h.1, fin_v e r h.2⟩
  · rename_i a k
    obtain ⟨p1, w1, rfl, e1, m1⟩ := n1
    refine .inr ⟨p1, k, w1, rfl, n2, r.sub _ _ e1, h.1.1, h.1.2.1, by rw [← m1.length]; exact h.1.2.2, fun p hp => ?_⟩
    exact fin_new e r hp (den_lst r hp (.of (prd_rep m1.pair k.toNat))) h.2
  · exact h.elim
theorem divD : OpD K (rI (fun _ j => j ≠ 0 ∧ Big j) fun i j => .int (i.fdiv j)) fDiv := by
  intro G0 L0 H0 G L M H v1 v2 d1 d2 q e r n1 n2 h
  unfold fDiv at h
  split at h
  · rename_i i j
    have h0 := h.1.1
    refine ⟨_, _, n1, n2, ⟨by omega, h.1.2⟩, fin_same (d := .int (i.fdiv j)) e r rfl ?_⟩
    rw [Int.fdiv_eq_ediv_of_nonneg i (Int.le_of_lt h0)]
    exact h.2
  · exact h.elim
theorem divND : OpD K (rI (fun _ j => j ≠ 0 ∧ Big j) fun i j => .int (i.fdiv j)) fDivN := by
  intro G0 L0 H0 G L M H v1 v2 d1 d2 q e r n1 n2 h
  unfold fDivN at h
  split at h
  · exact ⟨_, _, n1, n2, h.1, fin_v e r h.2⟩
  · exact h.elim
theorem modD : OpD K (rI (fun _ j => 0 < j) fun i j => .int (i % j)) fMod := by
  intro G0 L0 H0 G L M H v1 v2 d1 d2 q e r n1 n2 h
  unfold fMod at h
  split at h
  · exact ⟨_, _, n1, n2, h.1, fin_v e r h.2⟩
  · exact h.elim
theorem powD : OpD K (rI CPow fun i j => .int (i ^ j.toNat)) fPow := by
  intro G0 L0 H0 G L M H v1 v2 d1 d2 q e r n1 n2 h
  unfold fPow at h
  split at h
  · exact ⟨_, _, n1, n2, h.1, fin_v e r h.2⟩
  · exact h.elim
theorem negD : UnD K (rU fun i => .int (-i)) fNeg := by
  intro G0 L0 H0 G L M H v1 d1 q e r n1 h
  unfold fNeg at h
  split at h
  · exact ⟨_, n1, fin_v e r h⟩
  · exact h.elim
end
section
variable {X : Cx} {R : St → XK} {a b c : Expr} {ta tb : DE} {pos : Pos}
theorem j_add (ja : JE X R a ta) (jb : JE X R b tb) : JE X R (.BinOp a .Add b pos) (dOp fAdd ta tb) := j_op (op_add.or (op_add_str.or (op_cat.or op_catT))) catD ja jb
theorem j_sub (ja : JE X R a ta) (jb : JE X R b tb) : JE X R (.BinOp a .Sub b pos) (dOp fSub ta tb) := j_op op_sub subD ja jb
theorem j_mul (ja : JE X R a ta) (jb : JE X R b tb) : JE X R (.BinOp a .Mult b pos) (dOp fMul ta tb) := j_op (op_mulB.or op_rep) mulD ja jb
theorem j_div (ja : JE X R a ta) (jb : JE X R b tb) : JE X R (.BinOp a .FloorDiv b pos) (dOp fDiv ta tb) := j_op op_fdivB divD ja jb
theorem j_divN (ja : JE X R a ta) (jb : JE X R b tb) : JE X R (.BinOp a .FloorDiv b pos) (dOp fDivN ta tb) := j_op op_fdivB divND ja jb
theorem j_mod (ja : JE X R a ta) (jb : JE X R b tb) : JE X R (.BinOp a .Mod b pos) (dOp fMod ta tb) := j_op op_mod modD ja jb
theorem j_pow (ja : JE X R a ta) (jb : JE X R b tb) : JE X R (.BinOp a .Pow b pos) (dOp fPow ta tb) := j_op op_pow powD ja jb
theorem j_neg (ja : JE X R a ta) : JE X R (.UnaryOp .USub a pos) (dUn fNeg ta) := j_un un_neg negD ja
end
/-! ### comparisons -/
def fLt : Dt → Dt → Ms → DQ → Prop
  | .int i, .int j, M, q => q (.bl (decide (i < j))) M
  | _, _, _, _ => False
def fLe : Dt → Dt → Ms → DQ → Prop
  | .int i, .int j, M, q => q (.bl (decide (i ≤ j))) M
  | _, _, _, _ => False
def fGt : Dt → Dt → Ms → DQ → Prop
  | .int i, .int j, M, q => q (.bl (decide (j < i))) M
  | _, _, _, _ => False
def fGe : Dt → Dt → Ms → DQ → Prop
  | .int i, .int j, M, q => q (.bl (decide (j ≤ i))) M
  | _, _, _, _ => False
def flatD : Dt → Option V
  | .non => some .non
  | .bl b => some (.bl b)
  | .int i => some (.int i)
  | .str x => some (.str x)
  | _ => none
def flatDs : List Dt → Option (List V)
  | [] => some []
  | d :: ds => match flatD d, flatDs ds with
    | some v, some vs => some (v :: vs)
    | _, _ => none
section
variable {K : PySem.W.Frag} {G : Hp} {L : List Addr}
theorem flatD_is {d : Dt} {v u : V} (h : flatD d = some u) (n : Den K G L d v) : v = u ∧ flatV u = true := by
  cases d <;> first | (cases h; exact ⟨n, rfl⟩) | cases h
theorem flatDs_is : ∀ {ds : List Dt} {vs us : List V}, flatDs ds = some us → DenL K G L ds vs → vs = us ∧ us.all flatV = true
  | [], vs, us, h, n => by
    cases h
    exact ⟨n, rfl⟩
  | d :: ds, _, us, h, ⟨v, r, e, n1, n2⟩ => by
    subst e
    unfold flatDs at h
    split at h
    · rename_i u1 u2 h1 h2
      cases h
      obtain ⟨a1, a2⟩ := flatD_is h1 n1
      obtain ⟨b1, b2⟩ := flatDs_is h2 n2
      subst a1 b1
      exact ⟨rfl, by rw [List.all_cons, a2, b2]; rfl⟩
    · cases h
end
/-- == of flat things, of tuples of flat things -/
def fEqF : Dt → Dt → Ms → DQ → Prop
  | .int i, .int j, M, q => q (.bl (decide (i = j))) M
  | .str i, .str j, M, q => q (.bl (decide (i = j))) M
  | .bl i, .bl j, M, q => q (.bl (decide (i = j))) M
  | .tup a, .tup b, M, q => match flatDs a, flatDs b with
    | some us, some vs => q (.bl (eqVs us vs)) M
    | _, _ => False
  | _, _, _, _ => False
def fNeF : Dt → Dt → Ms → DQ → Prop
  | .int i, .int j, M, q => q (.bl (!decide (i = j))) M
  | .str i, .str j, M, q => q (.bl (!decide (i = j))) M
  | .bl i, .bl j, M, q => q (.bl (!decide (i = j))) M
  | .tup a, .tup b, M, q => match flatDs a, flatDs b with
    | some us, some vs => q (.bl (!eqVs us vs)) M
    | _, _ => False
  | _, _, _, _ => False
def fIsN : Dt → Dt → Ms → DQ → Prop
  | .non, .non, M, q => q (.bl true) M
  | .bl _, .non, M, q => q (.bl false) M
  | .int _, .non, M, q => q (.bl false) M
  | .str _, .non, M, q => q (.bl false) M
  | .tup _, .non, M, q => q (.bl false) M
  | .lst _, .non, M, q => q (.bl false) M
  | _, _, _, _ => False
def fNotN : Dt → Dt → Ms → DQ → Prop
  | .non, .non, M, q => q (.bl false) M
  | .bl _, .non, M, q => q (.bl true) M
  | .int _, .non, M, q => q (.bl true) M
  | .str _, .non, M, q => q (.bl true) M
  | .tup _, .non, M, q => q (.bl true) M
  | .lst _, .non, M, q => q (.bl true) M
  | _, _, _, _ => False
section
variable {K : PySem.W.Frag}
theorem ltD : OpD K (rI0 fun i j => .bl (decide (i < j))) fLt := by
  intro G0 L0 H0 G L M H v1 v2 d1 d2 q e r n1 n2 h
  unfold fLt at h
  split at h
  · exact ⟨_, _, n1, n2, fin_v e r h⟩
  · exact h.elim
theorem leD : OpD K (rI0 fun i j => .bl (decide (i ≤ j))) fLe := by
  intro G0 L0 H0 G L M H v1 v2 d1 d2 q e r n1 n2 h
  unfold fLe at h
  split at h
  · exact ⟨_, _, n1, n2, fin_v e r h⟩
  · exact h.elim
theorem gtD : OpD K (rI0 fun i j => .bl (decide (j < i))) fGt := by
  intro G0 L0 H0 G L M H v1 v2 d1 d2 q e r n1 n2 h
  unfold fGt at h
  split at h
  · exact ⟨_, _, n1, n2, fin_v e r h⟩
  · exact h.elim
theorem geD : OpD K (rI0 fun i j => .bl (decide (j ≤ i))) fGe := by
  intro G0 L0 H0 G L M H v1 v2 d1 d2 q e r n1 n2 h
  unfold fGe at h
  split at h
  · exact ⟨_, _, n1, n2, fin_v e r h⟩
  · exact h.elim
theorem dec_iff {p q : Prop} [Decidable p] [Decidable q] (h : p ↔ q) : decide p = decide q := decide_eq_decide.mpr h
theorem eqFD : OpD K (fun x y H Q => rEq x y H Q ∨ rEqT K x y H Q) fEqF := by
  intro G0 L0 H0 G L M H v1 v2 d1 d2 q e r n1 n2 h
  unfold fEqF at h
  split at h
  · rename_i i j
    cases n1; cases n2
    exact .inl ⟨rfl, fin_same (d := .bl _) e r (by show V.bl _ = V.bl _; rw [dec_iff (p := V.int i = V.int j) (q := i = j) ⟨fun z => V.int.inj z, fun z => by rw [z]⟩]) h⟩
  · rename_i i j
    cases n1; cases n2
    exact .inl ⟨rfl, fin_same (d := .bl _) e r (by show V.bl _ = V.bl _; rw [dec_iff (p := V.str i = V.str j) (q := i = j) ⟨fun z => V.str.inj z, fun z => by rw [z]⟩]) h⟩
  · rename_i i j
    cases n1; cases n2
    exact .inl ⟨rfl, fin_same (d := .bl _) e r (by show V.bl _ = V.bl _; rw [dec_iff (p := V.bl i = V.bl j) (q := i = j) ⟨fun z => V.bl.inj z, fun z => by rw [z]⟩]) h⟩
  · rename_i a b
    obtain ⟨p1, w1, rfl, e1, m1⟩ := n1
    obtain ⟨p2, w2, rfl, e2, m2⟩ := n2
    split at h
    · rename_i us vs h1 h2
      obtain ⟨rfl, a2⟩ := flatDs_is h1 m1
      obtain ⟨rfl, b2⟩ := flatDs_is h2 m2
      exact .inr ⟨p1, p2, _, _, rfl, rfl, .inl (.inl (r.sub _ _ e1)), .inl (.inl (r.sub _ _ e2)), a2, b2, fin_v e r h⟩
    · exact h.elim
  · exact h.elim
theorem neFD : OpD K (fun x y H Q => rNe x y H Q ∨ rNeT K x y H Q) fNeF := by
  intro G0 L0 H0 G L M H v1 v2 d1 d2 q e r n1 n2 h
  unfold fNeF at h
  split at h
  · rename_i i j
    cases n1; cases n2
    exact .inl ⟨rfl, fin_same (d := .bl _) e r (by show V.bl _ = V.bl _; rw [dec_iff (p := V.int i = V.int j) (q := i = j) ⟨fun z => V.int.inj z, fun z => by rw [z]⟩]) h⟩
  · rename_i i j
    cases n1; cases n2
    exact .inl ⟨rfl, fin_same (d := .bl _) e r (by show V.bl _ = V.bl _; rw [dec_iff (p := V.str i = V.str j) (q := i = j) ⟨fun z => V.str.inj z, fun z => by rw [z]⟩]) h⟩
  · rename_i i j
    cases n1; cases n2
    exact .inl ⟨rfl, fin_same (d := .bl _) e r (by show V.bl _ = V.bl _; rw [dec_iff (p := V.bl i = V.bl j) (q := i = j) ⟨fun z => V.bl.inj z, fun z => by rw [z]⟩]) h⟩
  · rename_i a b
    obtain ⟨p1, w1, rfl, e1, m1⟩ := n1
    obtain ⟨p2, w2, rfl, e2, m2⟩ := n2
    split at h
    · rename_i us vs h1 h2
      obtain ⟨rfl, a2⟩ := flatDs_is h1 m1
      obtain ⟨rfl, b2⟩ := flatDs_is h2 m2
      exact .inr ⟨p1, p2, _, _, rfl, rfl, .inl (.inl (r.sub _ _ e1)), .inl (.inl (r.sub _ _ e2)), a2, b2, fin_v e r h⟩
    · exact h.elim
  · exact h.elim
theorem isND : OpD K (fun x y H Q => y = .non ∧ Q (.bl (decide (x = .non))) H) fIsN := by
  intro G0 L0 H0 G L M H v1 v2 d1 d2 q e r n1 n2 h
  unfold fIsN at h
  split at h
  · cases n1; exact ⟨n2, fin_same (d := .bl true) e r (by show V.bl _ = V.bl _; rw [decide_eq_true rfl]) h⟩
  · cases n1; exact ⟨n2, fin_same (d := .bl false) e r (by show V.bl _ = V.bl _; rw [decide_eq_false (fun z => nomatch z)]) h⟩
  · cases n1; exact ⟨n2, fin_same (d := .bl false) e r (by show V.bl _ = V.bl _; rw [decide_eq_false (fun z => nomatch z)]) h⟩
  · cases n1; exact ⟨n2, fin_same (d := .bl false) e r (by show V.bl _ = V.bl _; rw [decide_eq_false (fun z => nomatch z)]) h⟩
  · obtain ⟨p1, w1, rfl, _⟩ := n1; exact ⟨n2, fin_same (d := .bl false) e r (by show V.bl _ = V.bl _; rw [decide_eq_false (fun z => nomatch z)]) h⟩
  · obtain ⟨p1, w1, rfl, _⟩ := n1; exact ⟨n2, fin_same (d := .bl false) e r (by show V.bl _ = V.bl _; rw [decide_eq_false (fun z => nomatch z)]) h⟩
  · exact h.elim
theorem notND : OpD K (fun x y H Q => y = .non ∧ Q (.bl (!decide (x = .non))) H) fNotN := by
  intro G0 L0 H0 G L M H v1 v2 d1 d2 q e r n1 n2 h
  unfold fNotN at h
  split at h
  · cases n1; exact ⟨n2, fin_same (d := .bl false) e r (by show V.bl _ = V.bl _; rw [decide_eq_true rfl]; rfl) h⟩
  · cases n1; exact ⟨n2, fin_same (d := .bl true) e r (by show V.bl _ = V.bl _; rw [decide_eq_false (fun z => nomatch z)]; rfl) h⟩
  · cases n1; exact ⟨n2, fin_same (d := .bl true) e r (by show V.bl _ = V.bl _; rw [decide_eq_false (fun z => nomatch z)]; rfl) h⟩
  · cases n1; exact ⟨n2, fin_same (d := .bl true) e r (by show V.bl _ = V.bl _; rw [decide_eq_false (fun z => nomatch z)]; rfl) h⟩
  · obtain ⟨p1, w1, rfl, _⟩ := n1; exact ⟨n2, fin_same (d := .bl true) e r (by show V.bl _ = V.bl _; rw [decide_eq_false (fun z => nomatch z)]; rfl) h⟩
  · obtain ⟨p1, w1, rfl, _⟩ := n1; exact ⟨n2, fin_same (d := .bl true) e r (by show V.bl _ = V.bl _; rw [decide_eq_false (fun z => nomatch z)]; rfl) h⟩
  · exact h.elim
end
section
variable {X : Cx} {R : St → XK} {a b c : Expr} {ta tb : DE} {pos : Pos}
theorem j_lt (ja : JE X R a ta) (jb : JE X R b tb) : JE X R (.Compare a [.Lt] [b] pos) (dOp fLt ta tb) := j_cmp op_lt ltD ja jb (nomark _)
theorem j_le (ja : JE X R a ta) (jb : JE X R b tb) : JE X R (.Compare a [.LtE] [b] pos) (dOp fLe ta tb) := j_cmp op_le leD ja jb (nomark _)
theorem j_gt (ja : JE X R a ta) (jb : JE X R b tb) : JE X R (.Compare a [.Gt] [b] pos) (dOp fGt ta tb) := j_cmp op_gt gtD ja jb (nomark _)
theorem j_ge (ja : JE X R a ta) (jb : JE X R b tb) : JE X R (.Compare a [.GtE] [b] pos) (dOp fGe ta tb) := j_cmp op_ge geD ja jb (nomark _)
theorem j_eq {k : Nat} (hr : Room k X.A) (ja : JE X R a ta) (jb : JE X R b tb) : JE X R (.Compare a [.Eq] [b] pos) (dOp fEqF ta tb) := j_cmp (op_eq.or (op_eqT hr.units0)) eqFD ja jb (nomark _)
theorem j_ne {k : Nat} (hr : Room k X.A) (ja : JE X R a ta) (jb : JE X R b tb) : JE X R (.Compare a [.NotEq] [b] pos) (dOp fNeF ta tb) := j_cmp (op_ne.or (op_neT hr.units0)) neFD ja jb (nomark _)
theorem j_isN (ja : JE X R a ta) (jb : JE X R b tb) : JE X R (.Compare a [.Is] [b] pos) (dOp fIsN ta tb) := j_cmp op_isN isND ja jb (nomark _)
theorem j_notN (ja : JE X R a ta) (jb : JE X R b tb) : JE X R (.Compare a [.IsNot] [b] pos) (dOp fNotN ta tb) := j_cmp op_notN notND ja jb (nomark _)
theorem jt_lt (ja : JE X R a ta) (jb : JE X R b tb) : JT X R (.Compare a [.Lt] [b] pos) (tstD (dOp fLt ta tb)) := jt_cmp op_lt ltD ja jb (nomark _)
theorem jt_le (ja : JE X R a ta) (jb : JE X R b tb) : JT X R (.Compare a [.LtE] [b] pos) (tstD (dOp fLe ta tb)) := jt_cmp op_le leD ja jb (nomark _)
theorem jt_gt (ja : JE X R a ta) (jb : JE X R b tb) : JT X R (.Compare a [.Gt] [b] pos) (tstD (dOp fGt ta tb)) := jt_cmp op_gt gtD ja jb (nomark _)
theorem jt_ge (ja : JE X R a ta) (jb : JE X R b tb) : JT X R (.Compare a [.GtE] [b] pos) (tstD (dOp fGe ta tb)) := jt_cmp op_ge geD ja jb (nomark _)
theorem jt_eq {k : Nat} (hr : Room k X.A) (ja : JE X R a ta) (jb : JE X R b tb) : JT X R (.Compare a [.Eq] [b] pos) (tstD (dOp fEqF ta tb)) := jt_cmp (op_eq.or (op_eqT hr.units0)) eqFD ja jb (nomark _)
theorem jt_ne {k : Nat} (hr : Room k X.A) (ja : JE X R a ta) (jb : JE X R b tb) : JT X R (.Compare a [.NotEq] [b] pos) (tstD (dOp fNeF ta tb)) := jt_cmp (op_ne.or (op_neT hr.units0)) neFD ja jb (nomark _)
theorem jt_isN (ja : JE X R a ta) (jb : JE X R b tb) : JT X R (.Compare a [.Is] [b] pos) (tstD (dOp fIsN ta tb)) := jt_cmp op_isN isND ja jb (nomark _)
theorem jt_notN (ja : JE X R a ta) (jb : JE X R b tb) : JT X R (.Compare a [.IsNot] [b] pos) (tstD (dOp fNotN ta tb)) := jt_cmp op_notN notND ja jb (nomark _)
end
/-! ### index, len -/
def seqD (M : Ms) : Dt → Option (List Dt)
  | .lst xs => some xs
  | .tup xs => some xs
  | .scr ns => some (ns.map .int)
  | .kt xs => some xs
  | .loc k => match M[k]? with
    | some (.lst xs) => some xs
    | _ => none
  | _ => none
theorem seqD_is {K : PySem.W.Frag} {G : Hp} {L : List Addr} {M : Ms} {H : Hp} {d : Dt} {v : V} {xs : List Dt} (r : Rl K G L M H) (n : Den K G L d v) (h : seqD M d = some xs) : ∃ a vs, v = .ref a ∧ (SqL K H a vs ∨ SqT K H a vs) ∧ DenL K G L xs vs := by
  cases d with
  | lst ds => cases h; obtain ⟨a, vs, rfl, e, m⟩ := n; exact ⟨a, vs, rfl, .inl (.of (r.sub _ _ e)), m⟩
  | tup ds => cases h; obtain ⟨a, vs, rfl, e, m⟩ := n; exact ⟨a, vs, rfl, .inr (.of (r.sub _ _ e)), m⟩
  | kt ds => cases h; obtain ⟨a, vs, rfl, e, m⟩ := n; exact ⟨a, vs, rfl, .inr (r.sub.sqT e), m⟩
  | scr ns => cases h; obtain ⟨a, rfl, e⟩ := n; exact ⟨a, _, rfl, .inl (r.sub.seq e), denL_ints⟩
  | loc k =>
    obtain ⟨a, rfl, e⟩ := n
    have h : (match M[k]? with | some (.lst xs) => some xs | _ => none) = some xs := h
    split at h
    · rename_i ys hm
      cases h
      obtain ⟨_, vs, e1, m1⟩ := r.ats k a _ e hm
      exact ⟨a, vs, rfl, .inl (.of e1), m1⟩
    · cases h
  | _ => cases h
theorem atI_den {K : PySem.W.Frag} {G : Hp} {L : List Addr} {ds : List Dt} {vs : List V} {i : Int} {d : Dt} (n : DenL K G L ds vs) (h : atI ds i = some d) : ∃ v, atI vs i = some v ∧ Den K G L d v := by
  unfold atI at h ⊢
  rw [← n.length]
  cases q : ixN ds.length i with
  | none => rw [q] at h; cases h
  | some j =>
    rw [q] at h
    obtain ⟨v, e, m⟩ := n.get h
    exact ⟨v, e, m⟩
def fIx : Dt → Dt → Ms → DQ → Prop
  | .str z, .int i, M, q => z.length ≤ sizeLine ∧ match atI z.cps.toList i with
    | some c => q (.str ⟨#[c]⟩) M
    | none => False
  | d, .int i, M, q => match seqD M d with
    | some xs => (match atI xs i with
      | some y => q y M
      | none => False)
    | none => False
  | _, _, _, _ => False
def fLen : List Dt → Ms → DQ → Prop
  | [.str z], M, q => z.length ≤ sizeLine ∧ q (.int z.length) M
  | [d], M, q => match seqD M d with
    | some xs => q (.int xs.length) M
    | none => False
  | _, _, _ => False
section
variable {K : PySem.W.Frag}
theorem ixD : OpD K (rIx K) fIx := by
  intro G0 L0 H0 G L M H v1 v2 d1 d2 q e r n1 n2 h
  unfold fIx at h
  split at h
  · rename_i z i
    split at h
    · rename_i c hc
      exact .inr (.inr ⟨z, i, c, n1, n2, h.1, hc, fin_v e r h.2⟩)
    · exact h.2.elim
  · rename_i d i _
    split at h
    · rename_i xs hx
      split at h
      · rename_i y hy
        obtain ⟨a, vs, rfl, hs, m⟩ := seqD_is r n1 hx
        obtain ⟨v, e1, m1⟩ := atI_den m hy
        rcases hs with hs | hs
        · exact .inl ⟨a, vs, i, v, rfl, n2, hs, e1, fin_same e r m1 h⟩
        · exact .inr (.inl ⟨a, vs, i, v, rfl, n2, hs, e1, fin_same e r m1 h⟩)
      · exact h.elim
    · exact h.elim
  · exact h.elim
theorem lenD : CaD K (fun xs H Q => (∃ z, xs = [V.str z] ∧ z.length ≤ sizeLine ∧ Q (.int z.length) H) ∨ (∃ p ys, xs = [V.ref p] ∧ (SqL K H p ys ∨ SqT K H p ys) ∧ Q (.int ys.length) H)) fLen := by
  intro G0 L0 H0 G L M H vs ds q e r n h
  unfold fLen at h
  split at h
  · rename_i z
    obtain ⟨v, rfl, n1⟩ := denL_one n
    cases n1
    exact .inl ⟨z, rfl, h.1, fin_v e r h.2⟩
  · rename_i d _
    obtain ⟨v, rfl, n1⟩ := denL_one n
    split at h
    · rename_i xs hx
      obtain ⟨a, ws, rfl, hs, m⟩ := seqD_is r n1 hx
      exact .inr ⟨a, ws, rfl, hs, fin_same (d := .int xs.length) e r (by show V.int _ = V.int _; rw [m.length]) h⟩
    · exact h.elim
  · exact h.elim
end
section
variable {X : Cx} {R : St → XK} {a b c : Expr} {ta tb : DE} {pos : Pos}
theorem j_ix (ja : JE X R a ta) (jb : JE X R b tb) (hs : PlainIx b := by exact fun _ _ => rfl) : JE X R (.Subscript a b pos) (dOp fIx ta tb) := j_ixs ix_seq ixD ja jb hs
variable {x : Str} {p : Pos} {e : Expr} {es : List Expr} {t : DA} {id T : String} {r : List V → Hp → VK → Prop} {f : List Dt → Ms → DQ → Prop}
theorem j_callB (hc : CallR X (.builtin id) r) (cd : CaD X.K r f) (hm : X.mg x = none) (hv : bootBuiltins x = some (.builtin id)) (ha : JA X R (e :: es) t) (hg : Gl X x := by rfl) (hn : x ≠ "__name__" := by decide) (hdb : (x == ("__debug__" : Str)) = false := by decide)
    (he : starEach (e :: es) X.env = (false, eval e X.env) :: starEach es X.env := by rfl) (hpl : (backTo pos (starEach es X.env)).any (·.1) = false := by rfl) : JE X R (.Call (.Name x p) (e :: es) [] pos) (dFn f t) :=
  .of (pe_callB hc hg hm hv ha hn hdb he hpl) fun σ H G L ρ M q x r n h hx => ca_rd cd r n h hx
theorem j_callTy (hc : CallR X (.type T) r) (cd : CaD X.K r f) (hm : X.mg x = none) (hv : bootBuiltins x = some (.type T)) (ha : JA X R (e :: es) t) (hg : Gl X x := by rfl) (hn : x ≠ "__name__" := by decide) (hdb : (x == ("__debug__" : Str)) = false := by decide)
    (he : starEach (e :: es) X.env = (false, eval e X.env) :: starEach es X.env := by rfl) (hpl : (backTo pos (starEach es X.env)).any (·.1) = false := by rfl) : JE X R (.Call (.Name x p) (e :: es) [] pos) (dFn f t) :=
  .of (pe_callTy hc hg hm hv ha hn hdb he hpl) fun σ H G L ρ M q x r n h hx => ca_rd cd r n h hx
theorem j_len (hm : X.mg "len" = none) (ha : JA X R [e] t) (he : starEach [e] X.env = (false, eval e X.env) :: starEach [] X.env := by rfl) (hpl : (backTo pos (starEach [] X.env)).any (·.1) = false := by rfl) (hg : Gl X "len" := by rfl) : JE X R (.Call (.Name "len" p) [e] [] pos) (dFn fLen t) :=
  j_callB (call_len_str.or call_len_seq) lenD hm PySem.boot_len ha hg (by decide) (by decide) he hpl
end
end L2

namespace L2
open PySem PySem.Spec PyProof.Rows
/-! ### texts -/
section
variable {X : Cx}
def rSplit : V → List V → Hp → VK → Prop := fun x xs H Q => ∃ z y, x = .str z ∧ xs = [.str y] ∧ (y.length == 0) = false ∧ z.length + 2 ≤ sizeLine ∧ ∀ p, H p = none → Q (.ref p) (upd H p (.lst ((Txt.split z y).map V.str)))
theorem vals_strs : ∀ (l : List (Str × Tok)), Vals ((l.map (·.1)).map V.str) (strValues l)
  | [] => .nil
  | p :: r => .cons ⟨p.2, rfl⟩ (vals_strs r)
theorem split_len_le (x y : Str) (h : x.length + 2 ≤ sizeLine) : (Txt.split x y).length ≤ sizeLine := by
  unfold Txt.split
  split
  · exact Nat.le_trans (by simp) (Nat.le_trans (Nat.le_add_left 2 x.length) h)
  · split
    · exact Nat.le_trans (by simp) (Nat.le_trans (Nat.le_add_left 2 x.length) h)
    · have e1 := StrLaws.occ_length_le x y 0 x.length (x.length + 1)
      rw [length_partsBetween]; omega
theorem mt_split : MtR X "str.split" rSplit := by
  intro pins s σ H x xs v us Q I rx rs h
  obtain ⟨z, y, rfl, rfl, hy, hz, q⟩ := h
  obtain ⟨t, rfl⟩ := rx
  obtain ⟨w, rfl, u, rfl⟩ := vals1 rs
  have fin : ∀ (l : List (Str × Tok)) (tk : Nat), l.map (·.1) = Txt.split z y → EP X pins σ Q (.ref s.heap.objs.size) { s with heap := s.heap.push { cls := .type "list", data := .seq (strValues l).toArray }, toks := tk } := fun l tk e =>
    ⟨.ref _, _, I.lnew (t' := tk) (ys := (Txt.split z y).map V.str) (by rw [← e]; exact vals_strs l) (by rw [List.length_map]; exact split_len_le z y hz), rfl, q _ I.fresh⟩
  have hn : (Builtin.Str.partsBetween z (Builtin.Str.occurrences z y 0 z.length (z.length + 1)) y.length).length ≤ sizeLine := by
    have e1 := StrLaws.occ_length_le z y 0 z.length (z.length + 1)
    rw [length_partsBetween]; omega
  cases h1 : (decide (z.length < y.length) || decide (Builtin.Str.strKind z < Builtin.Str.strKind y))
  · cases hf : (Builtin.Str.occurrences z y 0 z.length (z.length + 1)).isEmpty
    · refine call_meets F.slot_str_split (typeIs_str _ _ _) F.entry_str_split (F.args_str_split_2 _ _) (meets_str_split_sep z y t u h1 hy hf (by omega) hn) ?_
      show wants _ _ _ { s with toks := _, heap := s.heap.push { cls := .type "list", data := .seq (strsFrom s.toks (Builtin.Str.partsBetween z (Builtin.Str.occurrences z y 0 z.length (z.length + 1)) y.length)).toArray } }
      rw [strsFrom_eq]
      exact fin (numbered s.toks _) _ ((numbered_texts _ _).trans ((if_neg (ne_true_of_eq_false h1)).trans (if_neg (ne_true_of_eq_false hf))).symm)
    · exact call_meets F.slot_str_split (typeIs_str _ _ _) F.entry_str_split (F.args_str_split_2 _ _) (meets_str_split_not_found z y t u h1 hy hf)
        (fin [(z, t)] s.toks ((if_neg (ne_true_of_eq_false h1)).trans (if_pos hf)).symm)
  · exact call_meets F.slot_str_split (typeIs_str _ _ _) F.entry_str_split (F.args_str_split_2 _ _) (meets_str_split_cannot_occur z y t u h1)
      (fin [(z, t)] s.toks (if_pos h1).symm)
def rStarts : V → List V → Hp → VK → Prop := fun x xs H Q => ∃ z y, x = .str z ∧ xs = [.str y] ∧ Q (.bl (Txt.startswith z y)) H
theorem mt_starts : MtR X "str.startswith" rStarts := by
  intro pins s σ H x xs v us Q I rx rs h
  obtain ⟨z, y, rfl, rfl, q⟩ := h
  obtain ⟨t, rfl⟩ := rx
  obtain ⟨w, rfl, u, rfl⟩ := vals1 rs
  exact SC.startswith ⟨.bl _, H, I, rfl, q⟩
theorem call_intText : CallR X (.type "int") (fun xs H Q => ∃ x n, xs = [.str x] ∧ PySem.intText? x = some n ∧ x.length ≤ 640 ∧ Q (.int n) H) := by
  intro pins s σ H xs us Q I rs h
  obtain ⟨x, n, rfl, hn, hl, q⟩ := h
  obtain ⟨w, rfl, u, rfl⟩ := vals1 rs
  exact PySem.W.KIN.call_text hn hl ⟨.int n, H, I.tok _, ⟨_, rfl⟩, q⟩
/-! a slice of a text -/
def optI : Option Int → Value → Prop := fun o v => IsPart v o
def rSlS : V → Option Int → Option Int → Hp → VK → Prop := fun x lo hi H Q => ∃ z, x = .str z ∧ z.length ≤ sizeLine ∧ Q (.str (Txt.slice z lo hi)) H
theorem sl_str : SlR X rSlS := by
  intro pins s σ H x v vl vu lo hi sl Q I rx hs pl pu h
  obtain ⟨z, rfl, hz, q⟩ := h
  obtain ⟨t, rfl⟩ := rx
  refine ⟨"str", _, F.slot_str_getitem.lookup, typeIs_str _ _ _, ?_⟩
  have fin : ∀ (t' : Tok) (k : Nat), EP X pins σ Q (.str (Txt.slice z lo hi) t') { s with toks := k } := fun t' k => ⟨.str _, H, I.tok k, ⟨_, rfl⟩, q⟩
  cases pl with
  | none =>
    cases pu with
    | none => exact wpAny_getItem_str_slice (l := none) (u := none) (st := none) hs rfl (post_val_or_str ⟨Nat.le_trans (Txt.slice_le z _ _) hz, fun t' k => fin t' k⟩)
    | int j uj => exact wpAny_getItem_str_slice (l := none) (u := some (j, uj)) (st := none) hs rfl (post_val_or_str ⟨Nat.le_trans (Txt.slice_le z _ _) hz, fun t' k => fin t' k⟩)
  | int i ui =>
    cases pu with
    | none => exact wpAny_getItem_str_slice (l := some (i, ui)) (u := none) (st := none) hs rfl (post_val_or_str ⟨Nat.le_trans (Txt.slice_le z _ _) hz, fun t' k => fin t' k⟩)
    | int j uj => exact wpAny_getItem_str_slice (l := some (i, ui)) (u := some (j, uj)) (st := none) hs rfl (post_val_or_str ⟨Nat.le_trans (Txt.slice_le z _ _) hz, fun t' k => fin t' k⟩)
end
/-! f-strings -/
def tFmt (ta : TE) : TE := fun σ H Q => ta σ H fun x H1 => (∃ i, x = .int i ∧ i.natAbs.log2 < 1920 ∧ Q (.str (toString i)) H1) ∨ ∃ z, x = .str z ∧ z.length ≤ sizeLine ∧ Q (.str z) H1
def tJoin : List TE → Str → TE
  | [], acc => fun _ H Q => Q (.str acc) H
  | t :: ts, acc => fun σ H Q => t σ H fun x H1 => ∃ y, x = .str y ∧ (acc ++ y).length ≤ sizeLine ∧ tJoin ts (acc ++ y) σ H1 Q
section
variable {X : Cx} {a : Expr} {ta : TE} {pos : Pos}
theorem pe_fmt (ha : PE X a ta) : PE X (.FormattedValue a (-1) none pos) (tFmt ta) := by
  intro pins s σ H Q I h
  refine FormattedValue_plain (thn (ha pins s σ H _ I h) fun v s1 ⟨x, H1, I1, r1, q1⟩ => ?_)
  rcases q1 with ⟨i, rfl, hd, q⟩ | ⟨z, rfl, hz, q⟩
  · obtain ⟨t, rfl⟩ := r1
    exact wpAny_formatField_int hd ⟨.str _, H1, I1.tok _, ⟨_, rfl⟩, q⟩
  · obtain ⟨t, rfl⟩ := r1
    exact formatField_str (fun t' tk => ⟨.str z, H1, I1.tok tk, ⟨_, rfl⟩, q⟩) hz
theorem join_parts {es : List Expr} {ts : List TE} (h : Paired (PE X) es ts) : ∀ (acc : Str) (pins : List (Addr × Obj)) (s : Shared) (σ : St) (H : Hp) (Q : VK), acc.length ≤ sizeLine → Inv X pins σ H s → tJoin ts acc σ H Q →
    wpAny (model X.prog X.w) X.A (joinParts acc (evalEach es X.env)) (EP X pins σ Q) X.xe s := by
  induction h with
  | nil =>
    intro acc pins s σ H Q hz I q
    exact joinParts_nil ⟨.str acc, H, I.tok _, ⟨_, rfl⟩, q⟩ hz
  | cons he _ ih =>
    intro acc pins s σ H Q hz I q
    refine joinParts_cons (thn (he pins s σ H _ I q) fun v s1 ⟨x, H1, I1, r1, y, e, hz1, q1⟩ => ?_)
    subst e
    obtain ⟨t, rfl⟩ := r1
    exact ⟨hz1, ih (acc ++ y) pins s1 σ H1 Q hz1 I1 q1⟩
theorem pe_join {e1 e2 : Expr} {es : List Expr} {ts : List TE} (h : Paired (PE X) (e1 :: e2 :: es) ts) : PE X (.JoinedStr (e1 :: e2 :: es) pos) (tJoin ts Str.empty) := by
  intro pins s σ H Q I q
  exact JoinedStr_many (join_parts h Str.empty pins s σ H Q (by decide) I q)
end
/-! ### by data -/
def fSplit : Dt → List Dt → Ms → DQ → Prop
  | .str z, [.str y], M, q => ((y.length == 0) = false ∧ z.length + 2 ≤ sizeLine) ∧ q (.lst ((Txt.split z y).map Dt.str)) M
  | _, _, _, _ => False
def fStarts : Dt → List Dt → Ms → DQ → Prop
  | .str z, [.str y], M, q => q (.bl (Txt.startswith z y)) M
  | _, _, _, _ => False
def fStr : List Dt → Ms → DQ → Prop
  | [.int i], M, q => i.natAbs.log2 < 1920 ∧ q (.str (Str.ofString (toString i))) M
  | _, _, _ => False
def fInt : List Dt → Ms → DQ → Prop
  | [.int i], M, q => q (.int i) M
  | [.bl b], M, q => q (.int (if b then 1 else 0)) M
  | [.str x], M, q => x.length ≤ 640 ∧ match PySem.intText? x with
    | some n => q (.int n) M
    | none => False
  | _, _, _ => False
def fFmt : Dt → Ms → DQ → Prop
  | .int i, M, q => i.natAbs.log2 < 1920 ∧ q (.str (Str.ofString (toString i))) M
  | .str z, M, q => z.length ≤ sizeLine ∧ q (.str z) M
  | _, _, _ => False
def fAbs : List Dt → Ms → DQ → Prop
  | [.int i], M, q => q (.int (if i < 0 then -i else i)) M
  | _, _, _ => False
def fMax : List Dt → Ms → DQ → Prop
  | [.int i, .int j], M, q => q (.int (if j > i then j else i)) M
  | _, _, _ => False
def fMin : List Dt → Ms → DQ → Prop
  | [.int i, .int j], M, q => q (.int (if j < i then j else i)) M
  | _, _, _ => False
def fAny : List Dt → Ms → DQ → Prop
  | [d], M, q => ∃ bs : List Bool, seqD M d = some (bs.map Dt.bl) ∧ (∀ k, d ≠ .kt k) ∧ (∀ k, d ≠ .tup k) ∧ q (.bl (bs.any id)) M
  | _, _, _ => False
def kindD : Dt → Option Value
  | .non => some (.type "NoneType")
  | .bl _ => some (.type "bool")
  | .int _ => some (.type "int")
  | .str _ => some (.type "str")
  | .lst _ => some (.type "list")
  | .tup _ => some (.type "tuple")
  | _ => none
def clsD : Dt → Option Value
  | .ty T => some (.type T)
  | .ref C => some (.ref C)
  | _ => none
def fIsi (K : PySem.W.Frag) : List Dt → Ms → DQ → Prop
  | [d, c], M, q => match kindD d, clsD c with
    | some t, some t' => (match PySem.W.kitOne K t t' with
      | some b => q (.bl b) M
      | none => False)
    | _, _ => False
  | _, _, _ => False
/-- a sign, or a text, in a text -/
def fInS : Dt → Dt → Ms → DQ → Prop
  | .str i, .str j, M, q => q (.bl (!(Builtin.Str.occurrences j i 0 j.length 1).isEmpty)) M
  | _, _, _, _ => False
def fNotInS : Dt → Dt → Ms → DQ → Prop
  | .str i, .str j, M, q => q (.bl (!(!(Builtin.Str.occurrences j i 0 j.length 1).isEmpty))) M
  | _, _, _, _ => False
section
variable {K : PySem.W.Frag}
theorem denL_strs {G : Hp} {L : List Addr} : ∀ {l : List Str}, DenL K G L (l.map Dt.str) (l.map V.str)
  | [] => rfl
  | _ :: _ => ⟨_, _, rfl, rfl, denL_strs⟩
theorem denL_bls {G : Hp} {L : List Addr} : ∀ {bs : List Bool} {vs : List V}, DenL K G L (bs.map Dt.bl) vs → vs = bs.map V.bl
  | [], _, h => h
  | b :: bs, _, ⟨v, r, e, h1, h2⟩ => by
    subst e
    rw [denL_bls h2, show v = V.bl b from h1]
    rfl
theorem splitD : MtD K "str" rSplit fSplit := by
  intro G0 L0 H0 G L M H v d vs ds q e r n ns h
  unfold fSplit at h
  split at h
  · rename_i z y
    obtain ⟨u, rfl, n2⟩ := denL_one ns
    cases n; cases n2
    exact ⟨z, y, rfl, rfl, h.1.1, h.1.2, fun p hp => fin_new e r hp (den_lst r hp denL_strs) h.2⟩
  · exact h.elim
theorem startsD : MtD K "str" rStarts fStarts := by
  intro G0 L0 H0 G L M H v d vs ds q e r n ns h
  unfold fStarts at h
  split at h
  · rename_i z y
    obtain ⟨u, rfl, n2⟩ := denL_one ns
    cases n; cases n2
    exact ⟨z, y, rfl, rfl, fin_v e r h⟩
  · exact h.elim
theorem strD : CaD K (fun xs H Q => ∃ i, xs = [V.int i] ∧ i.natAbs.log2 < 1920 ∧ Q (.str (toString i)) H) fStr := by
  intro G0 L0 H0 G L M H vs ds q e r n h
  unfold fStr at h
  split at h
  · rename_i i
    obtain ⟨v, rfl, n1⟩ := denL_one n
    cases n1
    exact ⟨i, rfl, h.1, fin_v e r h.2⟩
  · exact h.elim
theorem intD : CaD K (fun xs H Q => ((∃ i, xs = [V.int i] ∧ Q (.int i) H) ∨ ∃ k, xs = [V.bl k] ∧ Q (.int (if k then 1 else 0)) H) ∨ ∃ x n, xs = [V.str x] ∧ PySem.intText? x = some n ∧ x.length ≤ 640 ∧ Q (.int n) H) fInt := by
  intro G0 L0 H0 G L M H vs ds q e r n h
  unfold fInt at h
  split at h
  · rename_i i
    obtain ⟨v, rfl, n1⟩ := denL_one n
    cases n1
    exact .inl (.inl ⟨i, rfl, fin_v e r h⟩)
  · rename_i i
    obtain ⟨v, rfl, n1⟩ := denL_one n
    cases n1
    exact .inl (.inr ⟨i, rfl, fin_v e r h⟩)
  · rename_i x
    obtain ⟨v, rfl, n1⟩ := denL_one n
    cases n1
    split at h
    · rename_i m hm
      exact .inr ⟨x, m, rfl, hm, h.1, fin_v e r h.2⟩
    · exact h.2.elim
  · exact h.elim
theorem absD : CaD K (fun xs H Q => ∃ i, xs = [V.int i] ∧ Q (.int (if i < 0 then -i else i)) H) fAbs := by
  intro G0 L0 H0 G L M H vs ds q e r n h
  unfold fAbs at h
  split at h
  · rename_i i
    obtain ⟨v, rfl, n1⟩ := denL_one n
    cases n1
    exact ⟨i, rfl, fin_v e r h⟩
  · exact h.elim
theorem maxD : CaD K (fun xs H Q => ∃ i j, xs = [V.int i, .int j] ∧ Q (.int (if j > i then j else i)) H) fMax := by
  intro G0 L0 H0 G L M H vs ds q e r n h
  unfold fMax at h
  split at h
  · rename_i i j
    obtain ⟨v, u, rfl, n1, n2⟩ := denL_two n
    cases n1; cases n2
    exact ⟨i, j, rfl, fin_v e r h⟩
  · exact h.elim
theorem minD : CaD K (fun xs H Q => ∃ i j, xs = [V.int i, .int j] ∧ Q (.int (if j < i then j else i)) H) fMin := by
  intro G0 L0 H0 G L M H vs ds q e r n h
  unfold fMin at h
  split at h
  · rename_i i j
    obtain ⟨v, u, rfl, n1, n2⟩ := denL_two n
    cases n1; cases n2
    exact ⟨i, j, rfl, fin_v e r h⟩
  · exact h.elim
theorem anyD : CaD K (rAny K) fAny := by
  intro G0 L0 H0 G L M H vs ds q e r n h
  unfold fAny at h
  split at h
  · rename_i d
    obtain ⟨bs, hs, nk, nt, h⟩ := h
    obtain ⟨v, rfl, n1⟩ := denL_one n
    cases d with
    | lst xs =>
      cases hs
      obtain ⟨a, ws, rfl, e1, m⟩ := n1
      exact ⟨a, bs, rfl, by rw [← denL_bls m]; exact .of (r.sub _ _ e1), fin_v e r h⟩
    | loc k =>
      obtain ⟨a, rfl, e1⟩ := n1
      have hs : (match M[k]? with | some (.lst xs) => some xs | _ => none) = some (bs.map Dt.bl) := hs
      split at hs
      · rename_i ys hm
        cases hs
        obtain ⟨_, ws, e2, m⟩ := r.ats k a _ e1 hm
        exact ⟨a, bs, rfl, by rw [← denL_bls m]; exact .of e2, fin_v e r h⟩
      · cases hs
    | tup xs => exact absurd rfl (nt xs)
    | kt xs => exact absurd rfl (nk xs)
    | scr ns =>
      have e0 : ns.map Dt.int = bs.map Dt.bl := Option.some.inj hs
      cases ns with
      | nil =>
        cases bs with
        | nil => obtain ⟨a, rfl, e1⟩ := n1; exact ⟨a, [], rfl, r.sub.seq e1, fin_v e r h⟩
        | cons _ _ => cases e0
      | cons _ _ =>
        cases bs with
        | nil => cases e0
        | cons _ _ => cases e0
    | _ => cases hs
  · exact h.elim
theorem tyOf_kind {G : Hp} {L : List Addr} {M : Ms} {H : Hp} {d : Dt} {v : V} {t : Value} (r : Rl K G L M H) (n : Den K G L d v) (h : kindD d = some t) : TyOf K H v t := by
  cases d with
  | non => cases h; cases n; exact .non
  | bl b => cases h; cases n; exact .bl _
  | int i => cases h; cases n; exact .int _
  | str x => cases h; cases n; exact .str _
  | lst xs => cases h; obtain ⟨a, ws, rfl, e, _⟩ := n; exact .lst (r.sub _ _ e)
  | tup xs => cases h; obtain ⟨a, ws, rfl, e, _⟩ := n; exact .tup (r.sub _ _ e)
  | _ => cases h
theorem cls_den {G : Hp} {L : List Addr} {d : Dt} {v : V} {t : Value} (n : Den K G L d v) (h : clsD d = some t) : clsV v = some t := by
  cases d with
  | ty T => cases n; exact h
  | ref C => cases n; exact h
  | _ => cases h
theorem isiD : CaD K (fun xs H Q => ∃ x c t t' b, xs = [x, c] ∧ TyOf K H x t ∧ clsV c = some t' ∧ PySem.W.kitOne K t t' = some b ∧ Q (.bl b) H) (fIsi K) := by
  intro G0 L0 H0 G L M H vs ds q e r n h
  unfold fIsi at h
  split at h
  · rename_i d c
    obtain ⟨v, u, rfl, n1, n2⟩ := denL_two n
    split at h
    · rename_i t t' h1 h2
      split at h
      · rename_i b hb
        exact ⟨v, u, t, t', b, rfl, tyOf_kind r n1 h1, cls_den n2 h2, hb, fin_v e r h⟩
      · exact h.elim
    · exact h.elim
  · exact h.elim
theorem inSD : OpD K (fun x y H Q => ∃ i j, x = V.str i ∧ y = .str j ∧ Q (.bl (!(Builtin.Str.occurrences j i 0 j.length 1).isEmpty)) H) fInS := by
  intro G0 L0 H0 G L M H v1 v2 d1 d2 q e r n1 n2 h
  unfold fInS at h
  split at h
  · exact ⟨_, _, n1, n2, fin_v e r h⟩
  · exact h.elim
theorem notInSD : OpD K (fun x y H Q => ∃ i j, x = V.str i ∧ y = .str j ∧ Q (.bl (!(!(Builtin.Str.occurrences j i 0 j.length 1).isEmpty))) H) fNotInS := by
  intro G0 L0 H0 G L M H v1 v2 d1 d2 q e r n1 n2 h
  unfold fNotInS at h
  split at h
  · exact ⟨_, _, n1, n2, fin_v e r h⟩
  · exact h.elim
end
def dBM (f : Dt → List Dt → Ms → DQ → Prop) (to : DE) (t : DA) : DE := fun ρ M q x => to ρ M (fun d M1 => t ρ M1 (fun ds M2 => f d ds M2 q) x) x
def dFmtJ : List DE → Str → DE
  | [], acc => fun _ M q _ => q (.str acc) M
  | t :: ts, acc => fun ρ M q x => t ρ M (fun d M1 => match d with
    | .str y => (acc ++ y).length ≤ sizeLine ∧ dFmtJ ts (acc ++ y) ρ M1 q x
    | _ => False) x
def dSlS (te : DE) (lo hi : Option DE) : DE := fun ρ M q x => te ρ M (fun d M1 => match d with
  | .str z => z.length ≤ sizeLine ∧ (match lo, hi with
    | none, none => q (.str (Txt.slice z none none)) M1
    | some l, none => l ρ M1 (fun dl M2 => match dl with | .int i => q (.str (Txt.slice z (some i) none)) M2 | _ => False) x
    | none, some u => u ρ M1 (fun du M2 => match du with | .int j => q (.str (Txt.slice z none (some j))) M2 | _ => False) x
    | some l, some u => l ρ M1 (fun dl M2 => match dl with | .int i => u ρ M2 (fun du M3 => match du with | .int j => q (.str (Txt.slice z (some i) (some j))) M3 | _ => False) x | _ => False) x)
  | _ => False) x
section
variable {X : Cx} {R : St → XK} {o a e e1 e2 : Expr} {es : List Expr} {to ta te : DE} {t : DA} {name : Str} {apos cpos pos p p2 : Pos} {T id : String}
/-- a text's method -/
theorem j_smeth {r : V → List V → Hp → VK → Prop} {f : Dt → List Dt → Ms → DQ → Prop} (slot : Slot "str" name id) (hty : typeOf (.builtin id) = pure (.type "method_descriptor")) (hm : MtR X id r) (md : MtD X.K "str" r f) (hf : ∀ d ds M q, f d ds M q → ∃ z, d = .str z) (ho : JE X R o to) (ha : JA X R (e :: es) t)
    (hbase : attributeBase o name X.env (eval o X.env) = eval o X.env := by rfl)
    (hfew : ((backTo cpos (starEach (e :: es) X.env)).all (fun x => !x.1) && (backToKw cpos (keywordEach [] X.env)).all (fun x => x.1.isSome)
      && decide ((e :: es).length + ([] : List Keyword).length + (if ([] : List Keyword).isEmpty then 0 else 1) < 30)) = true := by rfl)
    (hline : (apos.endLine == cpos.line) = true := by rfl) (hs : starEach (e :: es) X.env = (false, eval e X.env) :: starEach es X.env := by rfl) (hplain : (backTo cpos (starEach es X.env)).any (·.1) = false := by rfl) :
    JE X R (.Call (.Attribute o name apos) (e :: es) [] cpos) (fun ρ M q x => to ρ M (fun d M1 => (∃ z, d = .str z) ∧ t ρ M1 (fun ds M2 => f d ds M2 q) x) x) :=
  .of (pe_bm PySem.F.plainAttrs_str slot hty hm ho ha hbase hfew hline hs hplain) fun σ H G L ρ M q x rl n h hx => by
    refine ⟨G, L, ρ, M, _, x, rl, n, h, hx, fun v H1 ⟨d1, G1, L1, M1, e1, r1, n1, hz, h1⟩ => ?_⟩
    obtain ⟨z, rfl⟩ := hz
    have n1' : v = .str z := n1
    refine ⟨by rw [n1']; rfl, G1, L1, ρ, M1, _, x, r1, n.mono e1, h1, hx.on e1, fun vs H2 ⟨ds, G2, L2, M2, e2, r2, n2, h2⟩ => ?_⟩
    exact md G L H G2 L2 M2 H2 v _ vs ds q (e1.trans e2) r2 (Den.mono e2.g e2.l _ _ n1) n2 h2
theorem j_fmt (ha : JE X R a ta) : JE X R (.FormattedValue a (-1) none pos) (dUn fFmt ta) := .of (pe_fmt ha) fun σ H G L ρ M q x rl n h hx => by
  refine ⟨G, L, ρ, M, _, x, rl, n, h, hx, fun v H1 ⟨d1, G1, L1, M1, e1, r1, n1, h1⟩ => ?_⟩
  unfold fFmt at h1
  (try dsimp only at h1)
  split at h1
  · cases n1; exact .inl ⟨_, rfl, h1.1, fin_v e1 r1 h1.2⟩
  · cases n1; exact .inr ⟨_, rfl, h1.1, fin_v e1 r1 h1.2⟩
  · exact h1.elim
theorem paired_low : ∀ {es : List Expr} {ts : List DE}, Paired (JE X R) es ts → Paired (PE X) es (ts.map (lowE X.K R))
  | _, _, .nil => .nil
  | _, _, .cons h t => .cons h (paired_low t)
theorem join_rd {K : PySem.W.Frag} : ∀ (ts : List DE) (acc : Str) (σ : St) (G0 : Hp) (L0 : List Addr) (H0 G : Hp) (L : List Addr) (M : Ms) (H : Hp) (ρ : En) (q : DQ) (x : DX), Ex G0 L0 H0 G L H → Rl K G L M H → EnD K G L ρ σ → dFmtJ ts acc ρ M q x → XOk K G L H R x → tJoin (ts.map (lowE K R)) acc σ H (Fin K G0 L0 H0 q)
  | [], acc, σ, G0, L0, H0, G, L, M, H, ρ, q, x, e, rl, n, h, hx => fin_v e rl h
  | t :: ts, acc, σ, G0, L0, H0, G, L, M, H, ρ, q, x, e, rl, n, h, hx => by
    refine ⟨G, L, ρ, M, _, x, rl, n, h, hx, fun v H1 ⟨d1, G1, L1, M1, e1, r1, n1, h1⟩ => ?_⟩
    (try dsimp only at h1)
    split at h1
    · rename_i y
      exact ⟨y, n1, h1.1, join_rd ts (acc ++ y) σ G0 L0 H0 G1 L1 M1 H1 ρ q x (e.trans e1) r1 (n.mono e1) h1.2 (hx.on e1)⟩
    · exact h1.elim
theorem j_join {ts : List DE} (h : Paired (JE X R) (e1 :: e2 :: es) ts) : JE X R (.JoinedStr (e1 :: e2 :: es) pos) (dFmtJ ts Str.empty) :=
  .of (pe_join (paired_low h)) fun σ H G L ρ M q x rl n h hx => join_rd ts _ σ G L H G L M H ρ q x (.refl _ _ _) rl n h hx
theorem po_j {tl : DE} {l : Expr} (h : JE X R l tl) : PO X (some l) (tPart (lowE X.K R tl)) := po_some h
theorem j_slFrom {l : Expr} {tl : DE} (he : JE X R e te) (hl : JE X R l tl) : JE X R (.Subscript e (.Slice (some l) none none p2) pos) (dSlS te (some tl) none) :=
  .of (pe_slice sl_str he (po_some hl) po_none) fun σ H G L ρ M q x rl n h hx => by
    refine ⟨G, L, ρ, M, _, x, rl, n, h, hx, fun v H1 ⟨d1, G1, L1, M1, e1, r1, n1, h1⟩ => ?_⟩
    (try dsimp only at h1)
    split at h1
    · rename_i z
      refine ⟨G1, L1, ρ, M1, _, x, r1, n.mono e1, h1.2, hx.on e1, fun v2 H2 ⟨d2, G2, L2, M2, e2, r2, n2, h2⟩ => ?_⟩
      (try dsimp only at h2)
      split at h2
      · rename_i i
        exact ⟨i, n2, z, n1, h1.1, fin_v (e1.trans e2) r2 h2⟩
      · exact h2.elim
    · exact h1.elim
theorem j_slTo {u : Expr} {tu : DE} (he : JE X R e te) (hu : JE X R u tu) : JE X R (.Subscript e (.Slice none (some u) none p2) pos) (dSlS te none (some tu)) :=
  .of (pe_slice sl_str he po_none (po_some hu)) fun σ H G L ρ M q x rl n h hx => by
    refine ⟨G, L, ρ, M, _, x, rl, n, h, hx, fun v H1 ⟨d1, G1, L1, M1, e1, r1, n1, h1⟩ => ?_⟩
    (try dsimp only at h1)
    split at h1
    · rename_i z
      refine ⟨G1, L1, ρ, M1, _, x, r1, n.mono e1, h1.2, hx.on e1, fun v2 H2 ⟨d2, G2, L2, M2, e2, r2, n2, h2⟩ => ?_⟩
      (try dsimp only at h2)
      split at h2
      · rename_i i
        exact ⟨i, n2, z, n1, h1.1, fin_v (e1.trans e2) r2 h2⟩
      · exact h2.elim
    · exact h1.elim
/-! built-in functions -/
theorem boot_str' : bootBuiltins "str" = some (.type "str") := by decide +kernel
theorem boot_int' : bootBuiltins "int" = some (.type "int") := by decide +kernel
theorem boot_abs' : bootBuiltins "abs" = some (.builtin "abs") := by decide +kernel
theorem boot_any' : bootBuiltins "any" = some (.builtin "any") := by decide +kernel
theorem boot_max' : bootBuiltins "max" = some (.builtin "max") := by decide +kernel
theorem boot_min' : bootBuiltins "min" = some (.builtin "min") := by decide +kernel
theorem boot_isinstance' : bootBuiltins "isinstance" = some (.builtin "isinstance") := by decide +kernel
theorem boot_bool' : bootBuiltins "bool" = some (.type "bool") := by decide +kernel
theorem boot_tuple' : bootBuiltins "tuple" = some (.type "tuple") := by decide +kernel
theorem boot_list' : bootBuiltins "list" = some (.type "list") := by decide +kernel
theorem j_ty {x : Str} {T : String} (hm : X.mg x = none) (hv : bootBuiltins x = some (.type T)) (hg : Gl X x := by rfl) (hn : x ≠ "__name__" := by decide) (hd : (x == ("__debug__" : Str)) = false := by decide) : JE X R (.Name x p) (dC (.ty T)) := j_c (pe_bltn (v := .ty T) hg hm hv rfl hn hd) fun _ _ => rfl
theorem j_gref {x : Str} {C : Addr} (hm : X.mg x = some (.ref C)) (hg : Gl X x := by rfl) (hd : (x == ("__debug__" : Str)) = false := by decide) : JE X R (.Name x p) (dC (.ref C)) := j_c (pe_glob (v := .ref C) hg hm rfl hd) fun _ _ => rfl
theorem j_gstr {x : Str} {z : Str} (hm : ∃ tk, X.mg x = some (.str z tk)) (hg : Gl X x := by rfl) (hd : (x == ("__debug__" : Str)) = false := by decide) : JE X R (.Name x p) (dC (.str z)) := let ⟨tk, hm⟩ := hm; j_c (pe_glob (v := .str z) hg hm ⟨tk, rfl⟩ hd) fun _ _ => rfl
theorem j_gint {x : Str} {z : Int} (hm : ∃ tk, X.mg x = some (.int z tk)) (hg : Gl X x := by rfl) (hd : (x == ("__debug__" : Str)) = false := by decide) : JE X R (.Name x p) (dC (.int z)) := let ⟨tk, hm⟩ := hm; j_c (pe_glob (v := .int z) hg hm ⟨tk, rfl⟩ hd) fun _ _ => rfl
end
end L2

namespace L2
open PySem PySem.Spec PyProof.Rows
/-! ### a text walked sign by sign -/
def Its (x : Str) : It := ⟨fun i _ => i < x.cps.size, fun i H v H' => H' = H ∧ ∃ c, x.cps[i]? = some c ∧ v = .str ⟨#[c]⟩, fun i _ => x.cps.size ≤ i⟩
theorem turn_strA {P : Program} {w : World} {K : PySem.W.Frag} {tg : Expr} (x : Str) (t : Tok) (it : Addr) : Turn P w K tg (Its x) [it] it (fun i h => h.IsStrIter it "str_ascii_iterator" x t i) where
  mem := by simp
  obj := fun i h st b hb => by
    have e : b = it := by simpa using hb
    subst e
    obtain ⟨o, e, c, d⟩ := st
    exact ⟨o, e, fun v z => by rw [d] at z; cases z⟩
  keep := fun i h h' st k => let ⟨o, ho, r⟩ := st; ⟨o, k it (by simp) o ho, r⟩
  item := by
    intro X hP hw hK hc i pins s σ H E I hf st hg
    subst hP hw hK
    obtain ⟨f0, f1, f2, f3, f4, f5⟩ := hf it (by simp)
    have hg : i < x.cps.size := hg
    refine wpAny_pyNext_ascii_item st (c := x.cps[i]) (by simp [hg]) fun h' st' sb => ?_
    have I1 : Inv X pins σ H { s with heap := h', toks := s.toks + 1 } := I.turned (fun b o hb e => (sb.2 b hb).trans e) f0 f1 f3 f4 f5
    obtain ⟨o, e, c, d⟩ := id st'
    exact ⟨_, rfl, go_of (s := { s with heap := h', toks := s.toks + 1 }) e c d (by decide) ⟨.str ⟨#[x.cps[i]]⟩, H, I1, ⟨_, rfl⟩, ⟨rfl, _, by simp [hg], rfl⟩, st', fun b hb => (hf b hb).1⟩⟩
  done := by
    intro X hP hw hK hc i pins s σ H E I hf st hg
    subst hP hw hK
    obtain ⟨f0, f1, f2, f3, f4, f5⟩ := hf it (by simp)
    have hg : x.cps.size ≤ i := hg
    exact wpAny_pyNext_ascii_end (I.ok.hd hc) st (by simp; omega) fun h' eb => ⟨rfl, I.turned (t' := s.toks) (fun b o hb e => eb b o hb e) f0 f1 f3 f4 f5⟩
  self := fun _ _ _ _ _ st h => wpAny_pyIter_striter_ascii st h
theorem turn_strW {P : Program} {w : World} {K : PySem.W.Frag} {tg : Expr} (x : Str) (t : Tok) (it : Addr) : Turn P w K tg (Its x) [it] it (fun i h => h.IsStrIter it "str_iterator" x t i) where
  mem := by simp
  obj := fun i h st b hb => by
    have e : b = it := by simpa using hb
    subst e
    obtain ⟨o, e, c, d⟩ := st
    exact ⟨o, e, fun v z => by rw [d] at z; cases z⟩
  keep := fun i h h' st k => let ⟨o, ho, r⟩ := st; ⟨o, k it (by simp) o ho, r⟩
  item := by
    intro X hP hw hK hc i pins s σ H E I hf st hg
    subst hP hw hK
    obtain ⟨f0, f1, f2, f3, f4, f5⟩ := hf it (by simp)
    have hg : i < x.cps.size := hg
    refine wpAny_pyNext_wide_item st (c := x.cps[i]) (by simp [hg]) fun h' st' sb => ?_
    have I1 : Inv X pins σ H { s with heap := h', toks := s.toks + 1 } := I.turned (fun b o hb e => (sb.2 b hb).trans e) f0 f1 f3 f4 f5
    obtain ⟨o, e, c, d⟩ := id st'
    exact ⟨_, rfl, go_of (s := { s with heap := h', toks := s.toks + 1 }) e c d (by decide) ⟨.str ⟨#[x.cps[i]]⟩, H, I1, ⟨_, rfl⟩, ⟨rfl, _, by simp [hg], rfl⟩, st', fun b hb => (hf b hb).1⟩⟩
  done := by
    intro X hP hw hK hc i pins s σ H E I hf st hg
    subst hP hw hK
    obtain ⟨f0, f1, f2, f3, f4, f5⟩ := hf it (by simp)
    have hg : x.cps.size ≤ i := hg
    exact wpAny_pyNext_wide_end (I.ok.hd hc) st (by simp; omega) fun h' eb => ⟨rfl, I.turned (t' := s.toks) (fun b o hb e => eb b o hb e) f0 f1 f3 f4 f5⟩
  self := fun _ _ _ _ _ st h => wpAny_pyIter_striter_wide st h
def signsD (z : Str) : List Dt := z.cps.toList.map fun c => Dt.str ⟨#[c]⟩
theorem yl_str {K : PySem.W.Frag} {G : Hp} {L : List Addr} {z : Str} : Yl K (Its z) (signsD z) G L where
  go := fun i G1 L1 M1 H1 d g l r e => by
    unfold signsD at e
    rw [List.getElem?_map] at e
    cases q : z.cps.toList[i]? with
    | none => rw [q] at e; cases e
    | some c =>
      rw [q] at e
      cases e
      have hi : i < z.cps.size := by
        have := (List.getElem?_eq_some_iff.mp q).1
        simpa using this
      refine ⟨hi, fun v' H' ⟨eH, c', e', y⟩ => ?_⟩
      subst eH y
      have : c' = c := by
        rw [← Array.getElem?_toList, q] at e'
        exact (Option.some.inj e').symm
      subst this
      exact ⟨G1, .refl _ _ _, r, rfl⟩
  stop := fun i G1 L1 M1 H1 g l r e => by
    unfold signsD at e
    show z.cps.size ≤ i
    simpa using e
/-! ### what is walked: a list, a tuple, a text -/
def iterD (M : Ms) : Dt → Option (List Dt)
  | .lst xs => some xs
  | .tup xs => some xs
  | .scr ns => some (ns.map .int)
  | .kt xs => some xs
  | .str z => some (signsD z)
  | _ => none
def iSeqD (t : DE) : DA := fun ρ M q x => t ρ M (fun d M1 => match iterD M1 d with
  | some xs => q xs M1
  | none => False) x
section
variable {X : Cx} {R : St → XK} {tg e : Expr} {te : DE}
theorem it_list {pins : List (Addr × Obj)} {σ : St} {H : Hp} {s : Shared} {a : Addr} {vs : List V} {Q : It → Hp → Prop} {E : Value → Shared → Prop} (I : Inv X pins σ H s) (hq : SqL X.K H a vs) (q : Q (Itl X.K a) H) : wpAny (model X.prog X.w) X.A (pyIter (.ref a)) (PIE X pins σ tg Q) E s := by
  obtain ⟨its, rv, p, hz⟩ := I.list hq
  refine wpAny_pyIter_list p.isList ?_
  refine ⟨s.heap.objs.size, [s.heap.objs.size], _, _, H, rfl, I.kept (t' := s.toks) fun b o e => Heap.get?_push_of_some _ e, turn_list a _, ⟨_, Heap.get?_push_size _ rfl, rfl, rfl⟩, fun b hb => ?_, q⟩
  have e : b = s.heap.objs.size := by simpa using hb
  subst e
  exact I.fpOk (Nat.le_refl _) (I.hok.fresh (Nat.le_refl _))
theorem it_tup {pins : List (Addr × Obj)} {σ : St} {H : Hp} {s : Shared} {a : Addr} {vs : List V} {Q : It → Hp → Prop} {E : Value → Shared → Prop} (I : Inv X pins σ H s) (hq : SqT X.K H a vs) (q : Q (Itt X.K a) H) : wpAny (model X.prog X.w) X.A (pyIter (.ref a)) (PIE X pins σ tg Q) E s := by
  obtain ⟨its, rv, p, hz⟩ := I.tuple hq
  refine wpAny_pyIter_tuple (show s.heap.IsTuple a its.toArray from p) ?_
  refine ⟨s.heap.objs.size, [s.heap.objs.size], _, _, H, rfl, I.kept (t' := s.toks) fun b o e => Heap.get?_push_of_some _ e, turn_tuple a _, ⟨_, Heap.get?_push_size _ rfl, rfl, rfl⟩, fun b hb => ?_, q⟩
  have e : b = s.heap.objs.size := by simpa using hb
  subst e
  exact I.fpOk (Nat.le_refl _) (I.hok.fresh (Nat.le_refl _))
theorem it_str {pins : List (Addr × Obj)} {σ : St} {H : Hp} {s : Shared} {z : Str} {t : Tok} {Q : It → Hp → Prop} {E : Value → Shared → Prop} (I : Inv X pins σ H s) (q : Q (Its z) H) : wpAny (model X.prog X.w) X.A (pyIter (.str z t)) (PIE X pins σ tg Q) E s := by
  have fp : ∀ b ∈ [s.heap.objs.size], FpOk X pins H b := fun b hb => by
    have e : b = s.heap.objs.size := by simpa using hb
    subst e
    exact I.fpOk (Nat.le_refl _) (I.hok.fresh (Nat.le_refl _))
  cases ha : z.cps.all (· < 128)
  · exact wpAny_pyIter_wide ha ⟨s.heap.objs.size, [s.heap.objs.size], _, _, H, rfl, I.kept (t' := s.toks) fun b o e => Heap.get?_push_of_some _ e, turn_strW z t _, ⟨_, Heap.get?_push_size _ rfl, rfl, rfl⟩, fp, q⟩
  · exact wpAny_pyIter_ascii ha ⟨s.heap.objs.size, [s.heap.objs.size], _, _, H, rfl, I.kept (t' := s.toks) fun b o e => Heap.get?_push_of_some _ e, turn_strA z t _, ⟨_, Heap.get?_push_size _ rfl, rfl, rfl⟩, fp, q⟩
theorem ji_seq (h : JE X R e te) : JI X R tg e (iSeqD te) := by
  intro pins s σ H Q I ⟨G, L, ρ, M, q, x, rl, n, ht, hx, hQ⟩
  refine thn (h pins s σ H (Fin X.K G L H _) I ⟨G, L, ρ, M, _, x, rl, n, ht, hx, fun _ _ f => f⟩) fun u s1 ⟨v, H1, I1, rv, d, G1, L1, M1, e1, r1, n1, h1⟩ => ?_
  dsimp only at h1
  cases hi : iterD M1 d with
  | none => rw [hi] at h1; exact h1.elim
  | some xs =>
    rw [hi] at h1
    have fin : ∀ J, Yl X.K J xs G1 L1 → Q J H1 := fun J y => hQ J H1 ⟨xs, G1, L1, M1, e1, r1, y, h1⟩
    cases d with
    | lst ds =>
      cases hi
      obtain ⟨a, vs, rfl, e, m⟩ := n1
      cases rv
      exact it_list I1 (vs := vs) (.of (r1.sub _ _ e)) (fin _ (yl_list (fun G' g => .of (g _ _ e)) m))
    | scr ns =>
      cases hi
      obtain ⟨a, rfl, e⟩ := n1
      cases rv
      exact it_list I1 (r1.sub.seq e) (fin _ (yl_list (fun G' g => g.seq e) denL_ints))
    | tup ds =>
      cases hi
      obtain ⟨a, vs, rfl, e, m⟩ := n1
      cases rv
      exact it_tup I1 (vs := vs) (.of (r1.sub _ _ e)) (fin _ (yl_tup (fun G' g => .of (g _ _ e)) m))
    | kt ds =>
      cases hi
      obtain ⟨a, vs, rfl, e, m⟩ := n1
      cases rv
      exact it_tup I1 (r1.sub.sqT e) (fin _ (yl_tup (fun G' g => g.sqT e) m))
    | str z =>
      cases hi
      cases n1
      obtain ⟨t, rfl⟩ := rv
      exact it_str I1 (fin _ yl_str)
    | _ => cases hi
end
/-! ### the law's own promise -/
def TLaw : DF := fun ds _ q _ => ∃ ns : List Int, ds = [.scr ns] ∧ ns.length ≤ 63 ∧ ∀ M', q (.bl true) M'
def spLaw (K : PySem.W.Frag) : Sp := fun vs H Q _ => ∃ (a : Addr) (ns : List Int), vs = [.ref a] ∧ SqL K H a (ns.map V.int) ∧ ns.length ≤ 63 ∧ ∀ H', Q (.bl true) H'
theorem law_of {P : Program} {w : World} {K : PySem.W.Frag} {mg : Str → Option Value} {base : Heap} {k : Nat} {f : Addr} {fd : FuncData} {x : Str} (F : FnOk P w K mg base (CX1 P w) k f fd [x] (spD K TLaw)) : FnOk P w K mg base CX0 k f fd [x] (spLaw K) := by
  have sp : ∀ vs H Q E, spLaw K vs H Q E → spD K TLaw vs H Q E0 := by
    rintro vs H Q E ⟨a, ns, rfl, hS, hl, hQ⟩
    refine ⟨H, [], [.scr ns], [], fun d _ => d = .bl true, fun _ _ _ => False, ⟨.refl _, rfl, List.nodup_nil, fun k a m h => by simp at h⟩, ⟨_, _, rfl, ⟨a, rfl, hS⟩, rfl⟩, ⟨ns, rfl, hl, fun _ => rfl⟩, fun v H' ⟨d, G', L', M', _, _, n, e⟩ => ?_, fun _ _ _ _ _ _ _ h => h.elim⟩
    subst e
    rw [show v = V.bl true from n]
    exact hQ H'
  refine ⟨fun vs H Q E h => F.len vs H Q E0 (sp vs H Q E h), fun A outer s H args us vs Q E hr he hb hv h => codeAny_mono (F.run A outer s H args us vs Q E0 hr he hb hv (sp vs H Q E h)) fun r s' hq => ?_⟩
  cases r with
  | error e =>
    obtain ⟨_, _, _, _, _, _, _, _, hE⟩ := hq
    exact hE.elim
  | ok fl => cases fl <;> exact hq
end L2

namespace L2
open PySem PySem.Spec PyProof.Rows
/-! ### while, a, b = .. -/
def sWhile (c : DT) (tb : DS) : DS := fun Dn ρ M => ∃ W : Nat → En → Ms → Prop, (∃ m, W m ρ M) ∧ ∀ m ρ M, W m ρ M →
  c ρ M (fun b M1 => (b = true → ∃ N : En → Ms → Prop, (∀ ρ' M', N ρ' M' → ∃ m', m' < m ∧ W m' ρ' M') ∧ tb { Dn with nx := N, ct := N, bk := Dn.nx } ρ M1) ∧ (b = false → Dn.nx ρ M1)) Dn.x
def sPar (i j : Nat) (t : DA) : DS := fun Dn ρ M => t ρ M (fun ds M1 => match ds with
  | [a, b] => Dn.nx ((ρ.set i (some a)).set j (some b)) M1
  | _ => False) Dn.x
section
variable {X : Cx} {R : St → XK} {c a b : Expr} {body : List Stmt} {tc : DT} {tb : DS} {pos : Pos}
theorem js_while (hc : JT X R c tc) (hb : JSs X R body tb) (hp : PassesOwn (model X.prog X.w) X.A X.env X.xe := by first | exact PassesOwn.never | exact PassesOwn.leaving) : JS X R (.While c body [] pos) (sWhile tc tb) := .of (ps_while hp hc hb) fun σ H G L ρ M Dn rl n h hx => by
  obtain ⟨W, ⟨m0, w0⟩, turn⟩ := h
  refine ⟨fun m σ' H' => FinN X.K G L H (W m) σ' H', ⟨m0, ρ, G, L, M, .refl _ _ _, rl, n, w0⟩, fun m σ' H' ⟨ρ', G', L', M', e', r', n', w'⟩ => ?_⟩
  refine ⟨G', L', ρ', M', _, _, r', n', turn m ρ' M' w', hx.on e', fun v H1 ⟨G1, L1, M1, e1, r1, h1⟩ => ?_⟩
  cases v with
  | true =>
    obtain ⟨N, hN, hb⟩ := h1.1 rfl
    refine iteT ⟨FinN X.K G L H N, fun σ2 H2 ⟨ρ2, G2, L2, M2, e2, r2, n2, h2⟩ => ?_, ?_⟩
    · obtain ⟨m', hm, w2⟩ := hN ρ2 M2 h2
      exact ⟨m', hm, ρ2, G2, L2, M2, e2, r2, n2, w2⟩
    · have e01 := e'.trans e1
      exact ⟨G1, L1, ρ', M1, _, r1, n'.mono e1, hb, hx.on e01, ⟨fun _ _ f => FinN.back e01 f, fun _ _ f => Fin.back e01 f, fun _ _ f => FinN.back e01 f, fun _ _ f => FinN.back e01 f⟩⟩
  | false => exact iteF ⟨ρ', G1, L1, M1, e'.trans e1, r1, n'.mono e1, h1.2 rfl⟩
theorem js_par {i j : Nat} {x y : Str} {t : DA} {px py pt : Pos} {kt k2 pt2} (hN : X.N.Nodup) (hi : X.N[i]? = some x) (hj : X.N[j]? = some y) (ha : JA X R [a, b] t) (hij : i ≠ j := by decide)
    (hx : X.env.scope.names.lookup x = some .local := by rfl) (hy : X.env.scope.names.lookup y = some .local := by rfl)
    (hw : swappedStores [.Tuple [.Name x px, .Name y py] kt pt] (.Tuple [a, b] k2 pt2) X.env = pure (some [x, y]) := by rfl) (hc : X.calm = true := by rfl)
    (hs : swapsWithSole [.Tuple [.Name x px, .Name y py] kt pt] (.Tuple [a, b] k2 pt2) pos.line X.env = pure false := by rfl) :
    JS X R (.Assign [.Tuple [.Name x px, .Name y py] kt pt] (.Tuple [a, b] k2 pt2) pos) (sPar i j t) := .of (ps_par hc hN hi hj hij hx hy ha hw hs) fun σ H G L ρ M Dn rl n h hx => by
  refine ⟨G, L, ρ, M, _, _, rl, n, h, hx, fun vs H1 ⟨ds, G1, L1, M1, e1, r1, n1, h1⟩ => ?_⟩
  (try dsimp only at h1)
  split at h1
  · obtain ⟨v, u, rfl, m1, m2⟩ := denL_two n1
    exact ⟨v, u, rfl, _, G1, L1, M1, e1, r1, ((n.mono e1).set i m1).set j m2, h1⟩
  · exact h1.elim
end
/-! ### by their names -/
section
variable {X : Cx} {R : St → XK} {e e2 o : Expr} {es : List Expr} {t : DA} {to ta tb : DE} {a b : Expr} {p pos apos cpos : Pos}
theorem j_abs (hm : X.mg "abs" = none) (ha : JA X R [e] t) (he : starEach [e] X.env = (false, eval e X.env) :: starEach [] X.env := by rfl) (hpl : (backTo pos (starEach [] X.env)).any (·.1) = false := by rfl) (hg : Gl X "abs" := by rfl) : JE X R (.Call (.Name "abs" p) [e] [] pos) (dFn fAbs t) :=
  j_callB call_abs absD hm boot_abs' ha hg (by decide) (by decide) he hpl
theorem j_max (hm : X.mg "max" = none) (ha : JA X R [e, e2] t) (hc : X.calm = true := by rfl) (he : starEach [e, e2] X.env = (false, eval e X.env) :: starEach [e2] X.env := by rfl) (hpl : (backTo pos (starEach [e2] X.env)).any (·.1) = false := by rfl) (hg : Gl X "max" := by rfl) : JE X R (.Call (.Name "max" p) [e, e2] [] pos) (dFn fMax t) :=
  j_callB (call_max2 hc) maxD hm boot_max' ha hg (by decide) (by decide) he hpl
theorem j_min (hm : X.mg "min" = none) (ha : JA X R [e, e2] t) (hc : X.calm = true := by rfl) (he : starEach [e, e2] X.env = (false, eval e X.env) :: starEach [e2] X.env := by rfl) (hpl : (backTo pos (starEach [e2] X.env)).any (·.1) = false := by rfl) (hg : Gl X "min" := by rfl) : JE X R (.Call (.Name "min" p) [e, e2] [] pos) (dFn fMin t) :=
  j_callB (call_min2 hc) minD hm boot_min' ha hg (by decide) (by decide) he hpl
theorem j_any (hm : X.mg "any" = none) (ha : JA X R [e] t) (hc : X.calm = true := by rfl) (he : starEach [e] X.env = (false, eval e X.env) :: starEach [] X.env := by rfl) (hpl : (backTo pos (starEach [] X.env)).any (·.1) = false := by rfl) (hg : Gl X "any" := by rfl) : JE X R (.Call (.Name "any" p) [e] [] pos) (dFn fAny t) :=
  j_callB (call_any hc) anyD hm boot_any' ha hg (by decide) (by decide) he hpl
theorem j_isi (K : PySem.W.Frag) (hm : X.mg "isinstance" = none) (ha : JA X R [e, e2] t) (he : starEach [e, e2] X.env = (false, eval e X.env) :: starEach [e2] X.env := by rfl) (hpl : (backTo pos (starEach [e2] X.env)).any (·.1) = false := by rfl) (hg : Gl X "isinstance" := by rfl) (hK : X.K = K := by rfl) : JE X R (.Call (.Name "isinstance" p) [e, e2] [] pos) (dFn (fIsi K) t) := by
  subst hK
  exact j_callB call_isinst isiD hm boot_isinstance' ha hg (by decide) (by decide) he hpl
theorem j_str (hm : X.mg "str" = none) (ha : JA X R [e] t) (he : starEach [e] X.env = (false, eval e X.env) :: starEach [] X.env := by rfl) (hpl : (backTo pos (starEach [] X.env)).any (·.1) = false := by rfl) (hg : Gl X "str" := by rfl) : JE X R (.Call (.Name "str" p) [e] [] pos) (dFn fStr t) :=
  j_callTy call_str_int strD hm boot_str' ha hg (by decide) (by decide) he hpl
theorem j_int (hm : X.mg "int" = none) (ha : JA X R [e] t) (he : starEach [e] X.env = (false, eval e X.env) :: starEach [] X.env := by rfl) (hpl : (backTo pos (starEach [] X.env)).any (·.1) = false := by rfl) (hg : Gl X "int" := by rfl) : JE X R (.Call (.Name "int" p) [e] [] pos) (dFn fInt t) :=
  j_callTy (call_int1.or call_intText) intD hm boot_int' ha hg (by decide) (by decide) he hpl
theorem j_in (ja : JE X R a ta) (jb : JE X R b tb) (hm : behindInMarks .In b = false := by rfl) : JE X R (.Compare a [.In] [b] pos) (dOp fInS ta tb) := j_cmp op_in_str inSD ja jb hm
theorem j_notin (ja : JE X R a ta) (jb : JE X R b tb) (hm : behindInMarks .NotIn b = false := by rfl) : JE X R (.Compare a [.NotIn] [b] pos) (dOp fNotInS ta tb) := j_cmp op_notin_str notInSD ja jb hm
def dSM (f : Dt → List Dt → Ms → DQ → Prop) (to : DE) (t : DA) : DE := fun ρ M q x => to ρ M (fun d M1 => (∃ z, d = .str z) ∧ t ρ M1 (fun ds M2 => f d ds M2 q) x) x
theorem j_m_startswith (ho : JE X R o to) (ha : JA X R [e] t) (hbase : attributeBase o "startswith" X.env (eval o X.env) = eval o X.env := by rfl)
    (hfew : ((backTo cpos (starEach [e] X.env)).all (fun x => !x.1) && (backToKw cpos (keywordEach [] X.env)).all (fun x => x.1.isSome)
      && decide (([e] : List Expr).length + ([] : List Keyword).length + (if ([] : List Keyword).isEmpty then 0 else 1) < 30)) = true := by rfl)
    (hline : (apos.endLine == cpos.line) = true := by rfl) (hs : starEach [e] X.env = (false, eval e X.env) :: starEach [] X.env := by rfl) (hplain : (backTo cpos (starEach [] X.env)).any (·.1) = false := by rfl) :
    JE X R (.Call (.Attribute o "startswith" apos) [e] [] cpos) (dSM fStarts to t) :=
  j_smeth PySem.F.slot_str_startswith PySem.F.type_str_startswith mt_starts startsD (fun d ds M q h => by unfold fStarts at h; split at h <;> first | exact ⟨_, rfl⟩ | exact h.elim) ho ha hbase hfew hline hs hplain
theorem j_m_split (ho : JE X R o to) (ha : JA X R [e] t) (hbase : attributeBase o "split" X.env (eval o X.env) = eval o X.env := by rfl)
    (hfew : ((backTo cpos (starEach [e] X.env)).all (fun x => !x.1) && (backToKw cpos (keywordEach [] X.env)).all (fun x => x.1.isSome)
      && decide (([e] : List Expr).length + ([] : List Keyword).length + (if ([] : List Keyword).isEmpty then 0 else 1) < 30)) = true := by rfl)
    (hline : (apos.endLine == cpos.line) = true := by rfl) (hs : starEach [e] X.env = (false, eval e X.env) :: starEach [] X.env := by rfl) (hplain : (backTo cpos (starEach [] X.env)).any (·.1) = false := by rfl) :
    JE X R (.Call (.Attribute o "split" apos) [e] [] cpos) (dSM fSplit to t) :=
  j_smeth PySem.F.slot_str_split PySem.F.type_str_split mt_split splitD (fun d ds M q h => by unfold fSplit at h; split at h <;> first | exact ⟨_, rfl⟩ | exact h.elim) ho ha hbase hfew hline hs hplain
end
end L2

namespace L2
open PySem PySem.Spec PyProof.Rows
/-! ### readings -/
theorem compD_map {te : DE} {cs : En} {f : Dt → Dt} {M : Ms} {k : List Dt → Ms → Prop} : ∀ (xs acc : List Dt), (∀ x ∈ xs, ∀ q : DQ, q (f x) M → te (some x :: cs) M q noX) → k (acc ++ xs.map f) M → compD te cs xs acc M k
  | [], acc, _, h => by rw [List.map_nil, List.append_nil] at h; exact h
  | x :: xs, acc, ht, h => ht x List.mem_cons_self _ (compD_map xs (acc ++ [f x]) (fun y hy => ht y (List.mem_cons_of_mem _ hy)) (by simpa using h))
theorem fIx_str {z : Str} {i : Int} {c : Nat} {M : Ms} {q : DQ} (hz : z.length ≤ sizeLine) (h : atI z.cps.toList i = some c) (k : q (.str ⟨#[c]⟩) M) : fIx (.str z) (.int i) M q := by
  show z.length ≤ sizeLine ∧ (match atI z.cps.toList i with | some c => q (.str ⟨#[c]⟩) M | none => False)
  rw [h]
  exact ⟨hz, k⟩
theorem fIx_seq {d y : Dt} {xs : List Dt} {i : Int} {M : Ms} {q : DQ} (hs : seqD M d = some xs) (h : atI xs i = some y) (k : q y M) : fIx d (.int i) M q := by
  cases d with
  | str z => cases hs
  | _ =>
    unfold fIx
    simp only [hs, h]
    exact k
theorem fInt_str {z : Str} {n : Int} {M : Ms} {q : DQ} (hz : z.length ≤ 640) (h : PySem.intText? z = some n) (k : q (.int n) M) : fInt [.str z] M q := by
  show z.length ≤ 640 ∧ (match PySem.intText? z with | some n => q (.int n) M | none => False)
  rw [h]
  exact ⟨hz, k⟩
theorem fLen_seq {d : Dt} {xs : List Dt} {M : Ms} {q : DQ} (hs : seqD M d = some xs) (k : q (.int xs.length) M) : fLen [d] M q := by
  cases d with
  | str z => cases hs
  | _ =>
    unfold fLen
    simp only [hs]
    exact k
theorem fIsi_of {K : PySem.W.Frag} {d c : Dt} {t t' : Value} {b : Bool} {M : Ms} {q : DQ} (h1 : kindD d = some t) (h2 : clsD c = some t') (h3 : PySem.W.kitOne K t t' = some b) (k : q (.bl b) M) : fIsi K [d, c] M q := by
  show (match kindD d, clsD c with | some t, some t' => (match PySem.W.kitOne K t t' with | some b => q (.bl b) M | none => False) | _, _ => False)
  rw [h1, h2]
  show (match PySem.W.kitOne K t t' with | some b => q (.bl b) M | none => False)
  rw [h3]
  exact k
theorem atI_zero {α : Type} {x : α} {xs : List α} : atI (x :: xs) 0 = some x := atI_nat (j := 0) rfl
theorem forD_inv {g : Dt → En → (En → Prop) → Prop} {tb : DS} {Dn : DEnds} (I : En → Ms → Prop) : ∀ (xs : List Dt) (ρ : En) (M : Ms), I ρ M → (∀ x ∈ xs, ∀ (Dn' : DEnds) ρ M, I ρ M → Dn'.rt = Dn.rt → Dn'.x = Dn.x → (∀ ρ' M', I ρ' M' → Dn'.nx ρ' M') → g x ρ fun ρ' => tb Dn' ρ' M) → (∀ ρ M, I ρ M → Dn.nx ρ M) → forD g tb Dn xs ρ M
  | [], ρ, M, h, _, hd => hd ρ M h
  | x :: xs, ρ, M, h, ht, hd => ht x List.mem_cons_self _ ρ M h rfl rfl fun ρ' M' h' => forD_inv I xs ρ' M' h' (fun y hy => ht y (List.mem_cons_of_mem _ hy)) hd
end L2

namespace L2
open PySem PySem.Spec PyProof.Rows
/-! ### all -/
theorem range_all (bs : List Bool) : (List.range bs.length).all (fun i => bs.getD i false) = bs.all id := by
  induction bs with
  | nil => rfl
  | cons b bs ih =>
    rw [List.length_cons, List.range_succ_eq_map, List.all_cons, List.all_map, List.all_cons, ← ih]
    rfl
def rAll (K : PySem.W.Frag) : List V → Hp → VK → Prop := fun xs H Q => ∃ (p : Addr) (bs : List Bool), xs = [.ref p] ∧ SqL K H p (bs.map V.bl) ∧ Q (.bl (bs.all id)) H
section
variable {X : Cx}
theorem call_all (hc : X.calm = true) : CallR X (.builtin "all") (rAll X.K) := by
  intro pins s σ H xs us Q I r h
  obtain ⟨p, bs, rfl, hq, q⟩ := h
  obtain ⟨u, rfl, r1⟩ := vals1 r
  cases r1
  obtain ⟨its, rv, pl, hz⟩ := I.list hq
  have eits := vals_bl rv
  subst eits
  refine call_all_walk (wpAny_pyIter_list pl.isList ?_)
  have lp : p < s.heap.objs.size := by obtain ⟨o, e, _⟩ := pl.isList; exact Heap.lt_size e
  refine ⟨s.heap.objs.size, _, _, _, _, _, fun i => bs.getD i false, rfl, Walks.list (show X.A.in1.handled = none from I.ok.hd hc) s.heap.objs.size p (Nat.ne_of_lt lp) (bs.map Value.bool).toArray, ⟨⟨_, Heap.get?_push_size _ rfl, rfl, rfl⟩, pl.isList.at fun o e => Heap.get?_push_of_some _ e⟩, truth_bl, fun h' tk hk => ?_⟩
  refine ⟨.bl (bs.all id), H, I.kept fun b o e => hk b o (fun z => by have : b = s.heap.objs.size := by simpa using z
                                                                      exact Nat.lt_irrefl _ (this ▸ Heap.lt_size e)) (Heap.get?_push_of_some _ e), ?_, q⟩
  rw [List.size_toArray, List.length_map, range_all]
  rfl
def rPart : V → List V → Hp → VK → Prop := fun x xs H Q => ∃ z y, x = .str z ∧ xs = [.str y] ∧ (y.length == 0) = false ∧ z.length ≤ sizeLine ∧ ∀ p, H p = none → Q (.ref p) (upd H p (.tup [.str (Txt.partition z y).1, .str (Txt.partition z y).2.1, .str (Txt.partition z y).2.2]))
theorem mt_part : MtR X "str.partition" rPart := by
  intro pins s σ H x xs v us Q I rx rs h
  obtain ⟨z, y, rfl, rfl, hy, hz, q⟩ := h
  obtain ⟨t, rfl⟩ := rx
  obtain ⟨w, rfl, u, rfl⟩ := vals1 rs
  have fin : ∀ (a b c : Str) (ta tb tc : Tok) (tk : Nat), Txt.partition z y = (a, b, c) → EP X pins σ Q (.ref s.heap.objs.size) { s with heap := s.heap.push { cls := .type "tuple", data := .seq [.str a ta, .str b tb, .str c tc].toArray }, toks := tk } := fun a b c ta tb tc tk e => by
    refine ⟨.ref _, upd H s.heap.objs.size (.tup [.str (Txt.partition z y).1, .str (Txt.partition z y).2.1, .str (Txt.partition z y).2.2]), I.laid (t' := tk) (fun b u e => Heap.get?_push_of_some _ e) (Nat.le_refl _) ?_, rfl, q _ I.fresh⟩
    rw [e]
    exact ⟨by show 3 ≤ sizeLine; decide, _, .cons ⟨ta, rfl⟩ (.cons ⟨tb, rfl⟩ (.cons ⟨tc, rfl⟩ .nil)), ⟨_, Heap.get?_push_size _ rfl, rfl, _, rfl⟩⟩
  refine call_meets F.slot_str_partition (typeIs_str _ _ _) F.entry_str_partition (F.args_str_partition_2 _ _) (meets_str_partition z y t u hy hz) ?_
  cases ho : Builtin.Str.occurrences z y 0 z.length 1 with
  | nil => exact fin _ _ _ _ _ _ _ (by unfold Txt.partition; rw [ho])
  | cons i r => exact fin _ _ _ _ _ _ _ (by unfold Txt.partition; rw [ho])
end
/-! ### by data -/
def fAll : List Dt → Ms → DQ → Prop
  | [.lst xs], M, q => ∃ bs : List Bool, xs = bs.map Dt.bl ∧ q (.bl (bs.all id)) M
  | _, _, _ => False
def fPart : Dt → List Dt → Ms → DQ → Prop
  | .str z, [.str y], M, q => ((y.length == 0) = false ∧ z.length ≤ sizeLine) ∧ q (.tup [.str (Txt.partition z y).1, .str (Txt.partition z y).2.1, .str (Txt.partition z y).2.2]) M
  | _, _, _, _ => False
theorem allD {K : PySem.W.Frag} : CaD K (rAll K) fAll := by
  intro G0 L0 H0 G L M H vs ds q e r n h
  unfold fAll at h
  split at h
  · rename_i xs
    obtain ⟨bs, rfl, h⟩ := h
    obtain ⟨v, rfl, n1⟩ := denL_one n
    obtain ⟨a, ws, rfl, e1, m⟩ := n1
    exact ⟨a, bs, rfl, by rw [← denL_bls m]; exact .of (r.sub _ _ e1), fin_v e r h⟩
  · exact h.elim
theorem partD {K : PySem.W.Frag} : MtD K "str" rPart fPart := by
  intro G0 L0 H0 G L M H v d vs ds q e r n ns h
  unfold fPart at h
  split at h
  · rename_i z y
    obtain ⟨u, rfl, n2⟩ := denL_one ns
    cases n; cases n2
    exact ⟨z, y, rfl, rfl, h.1.1, h.1.2, fun p hp => fin_new e r hp (den_tup (ds := [.str (Txt.partition z y).1, .str (Txt.partition z y).2.1, .str (Txt.partition z y).2.2]) r hp ⟨_, _, rfl, rfl, _, _, rfl, rfl, _, _, rfl, rfl, rfl⟩) h.2⟩
  · exact h.elim
/-- a, b, c = e -/
def sUnp3 (i j k : Nat) (t : DE) : DS := fun Dn ρ M => t ρ M (fun d M1 => match d with
  | .tup [a, b, c] => Dn.nx (((ρ.set i (some a)).set j (some b)).set k (some c)) M1
  | _ => False) Dn.x
def sUnp2 (i j : Nat) (t : DE) : DS := fun Dn ρ M => t ρ M (fun d M1 => match d with
  | .tup [a, b] => Dn.nx ((ρ.set i (some a)).set j (some b)) M1
  | _ => False) Dn.x
section
variable {X : Cx} {R : St → XK} {e o : Expr} {es : List Expr} {t : DA} {to te : DE} {p pos apos cpos : Pos}
theorem boot_all' : bootBuiltins "all" = some (.builtin "all") := by decide +kernel
theorem j_all (hm : X.mg "all" = none) (ha : JA X R [e] t) (hc : X.calm = true := by rfl) (he : starEach [e] X.env = (false, eval e X.env) :: starEach [] X.env := by rfl) (hpl : (backTo pos (starEach [] X.env)).any (·.1) = false := by rfl) (hg : Gl X "all" := by rfl) : JE X R (.Call (.Name "all" p) [e] [] pos) (dFn fAll t) :=
  j_callB (call_all hc) allD hm boot_all' ha hg (by decide) (by decide) he hpl
theorem j_m_partition (ho : JE X R o to) (ha : JA X R [e] t) (hbase : attributeBase o "partition" X.env (eval o X.env) = eval o X.env := by rfl)
    (hfew : ((backTo cpos (starEach [e] X.env)).all (fun x => !x.1) && (backToKw cpos (keywordEach [] X.env)).all (fun x => x.1.isSome)
      && decide (([e] : List Expr).length + ([] : List Keyword).length + (if ([] : List Keyword).isEmpty then 0 else 1) < 30)) = true := by rfl)
    (hline : (apos.endLine == cpos.line) = true := by rfl) (hs : starEach [e] X.env = (false, eval e X.env) :: starEach [] X.env := by rfl) (hplain : (backTo cpos (starEach [] X.env)).any (·.1) = false := by rfl) :
    JE X R (.Call (.Attribute o "partition" apos) [e] [] cpos) (dSM fPart to t) :=
  j_smeth PySem.F.slot_str_partition PySem.F.type_str_partition mt_part partD (fun d ds M q h => by unfold fPart at h; split at h <;> first | exact ⟨_, rfl⟩ | exact h.elim) ho ha hbase hfew hline hs hplain
variable {i j k : Nat} {tg : Expr}
theorem js_unp3 (he : JE X R e te) (hg : PG X tg (gTup X.K 3 (gCons (gName i) (gCons (gName j) (gCons (gName k) gNil))))) (hs : swapsWithSole [tg] e pos.line X.env = pure false := by rfl) (hw : swappedStores [tg] e X.env = pure none := by rfl)
    (h1 : (assignEach [tg] X.env).map (·.2) = [assign tg X.env] := by rfl) : JS X R (.Assign [tg] e pos) (sUnp3 i j k te) := .of (ps_asg he hg hs hw h1) fun σ H G L ρ M Dn rl n h hx => by
  refine ⟨G, L, ρ, M, _, _, rl, n, h, hx, fun v H1 ⟨d1, G1, L1, M1, e1, r1, n1, h1⟩ => ?_⟩
  (try dsimp only at h1)
  split at h1
  · rename_i a b c
    obtain ⟨p, vs, rfl, e, m⟩ := n1
    obtain ⟨v1, r', rfl, m1, m'⟩ := m
    obtain ⟨v2, v3, rfl, m2, m3⟩ := denL_two m'
    exact ⟨p, _, rfl, .inl (.inl (r1.sub _ _ e)), rfl, v1, _, rfl, v2, _, rfl, v3, _, rfl, rfl, _, G1, L1, M1, e1, r1, (((n.mono e1).set i m1).set j m2).set k m3, h1⟩
  · exact h1.elim
theorem js_unp2 (he : JE X R e te) (hg : PG X tg (gTup X.K 2 (gCons (gName i) (gCons (gName j) gNil)))) (hs : swapsWithSole [tg] e pos.line X.env = pure false := by rfl) (hw : swappedStores [tg] e X.env = pure none := by rfl)
    (h1 : (assignEach [tg] X.env).map (·.2) = [assign tg X.env] := by rfl) : JS X R (.Assign [tg] e pos) (sUnp2 i j te) := .of (ps_asg he hg hs hw h1) fun σ H G L ρ M Dn rl n h hx => by
  refine ⟨G, L, ρ, M, _, _, rl, n, h, hx, fun v H1 ⟨d1, G1, L1, M1, e1, r1, n1, h1⟩ => ?_⟩
  (try dsimp only at h1)
  split at h1
  · rename_i a b
    obtain ⟨p, vs, rfl, e, m⟩ := n1
    obtain ⟨v1, v2, rfl, m1, m2⟩ := denL_two m
    exact ⟨p, _, rfl, .inl (.inl (r1.sub _ _ e)), rfl, v1, _, rfl, v2, _, rfl, rfl, _, G1, L1, M1, e1, r1, ((n.mono e1).set i m1).set j m2, h1⟩
  · exact h1.elim
end
/-! ### try: body, except D as n: suite -/
theorem EnD.unset {K : PySem.W.Frag} {G : Hp} {L : List Addr} {ρ : En} {σ : St} (h : EnD K G L ρ σ) (i : Nat) : EnD K G L (ρ.set i none) (σ.set i none) := by
  refine ⟨by rw [List.length_set, List.length_set]; exact h.len, fun j d' e => ?_⟩
  by_cases hj : i = j
  · subst hj
    have hl : i < ρ.length := by
      have := (List.getElem?_eq_some_iff.mp e).1
      rwa [List.length_set] at this
    rw [List.getElem?_set_self hl] at e
    cases e
  · rw [List.getElem?_set_ne hj] at e
    obtain ⟨u, a, b⟩ := h.ats j d' e
    exact ⟨u, by rw [List.getElem?_set_ne hj]; exact a, b⟩
def goesE (i : Nat) (Dn : DEnds) : DEnds := ⟨fun ρ M => Dn.nx (ρ.set i none) M, Dn.rt, fun ρ M => Dn.bk (ρ.set i none) M, fun ρ M => Dn.ct (ρ.set i none) M, noX⟩
def sTryE (K : PySem.W.Frag) (D : Addr) (i : Nat) (CC : Addr → Prop) (tb : DS) (ts : Addr → Addr → DS) : DS := fun Dn ρ M =>
  tb { Dn with x := fun ρ' C fs M' => fs = [] ∧ CC C ∧ PySem.W.subIn K (.ref C) (.ref D) = some true ∧ ∀ x, ts x C (goesE i Dn) (ρ'.set i (some (.ref x))) M' } ρ M
section
variable {X : Cx} {R : St → XK} {body : List Stmt} {D : Addr} {dn n : Str} {i : Nat} {b₀ : Stmt} {suite : List Stmt} {pos hpos np : Pos} {tb : DS} {ts : Addr → Addr → DS} {bmB' : List Value} {newId' : String}
theorem js_tryE (CC : Addr → Prop) (hN : X.N.Nodup) (hi : X.N[i]? = some n) (d : ExcCls X.K D bmB' newId') (hbe : bmB'.contains (.type "BaseException") = true) (hm : X.mg dn = some (.ref D))
    (hb : ∀ (R : St → XK) (pins : List (Addr × Obj)), JSs (Cx.tryC X R pins) R body tb)
    (hs : ∀ (x C : Addr) (pn : List (Addr × Obj)), CC C → ExcAt (Cx.suite X x pn) x C none → JSs (Cx.suite X x pn) (fun _ => E0) (b₀ :: suite) (ts x C)) (hk : X.env.scope.names.lookup n = some .local := by rfl) (hc : X.calm = true := by rfl) (hst : X.stack = X.env :: X.outer := by rfl) (hf : X.env.frame = some X.env.locals := by rfl) (hg : Gl X dn := by rfl) (hdb : (dn == ("__debug__" : Str)) = false := by decide) :
    JS X R (.Try body [.ExceptHandler (some (.Name dn np)) (some n) (b₀ :: suite) hpos] [] [] pos) (sTryE X.K D i CC tb ts) :=
  .of (ps_tryE (tb := fun R => lowS X.K R tb) (ts := fun x C _ => lowS X.K (fun _ => E0) (ts x C)) (fun C od => CC C ∧ od = none) hN hi hk hc hst hf d hbe hg hm hb (fun x C od pn hcc ex => by obtain ⟨h1, rfl⟩ := hcc; exact hs x C pn h1 ex) hdb) fun σ H G L ρ M Dn rl n h hx => by
    refine ⟨fun σ' cls od H' => ∃ ρ' C fs M' G' L', cls = .ref C ∧ (fs = [] ∧ CC C ∧ PySem.W.subIn X.K (.ref C) (.ref D) = some true ∧ ∀ x, ts x C (goesE i Dn) (ρ'.set i (some (.ref x))) M') ∧ Ex G L H G' L' H' ∧ Rl X.K G' L' M' H' ∧ EnD X.K G' L' ρ' σ' ∧ xRel X.K G' L' H' fs od, ?_, ?_⟩
    · exact ⟨G, L, ρ, M, _, rl, n, h, fun σ' ρ' C fs M' G' L' H' od hq e r n y => ⟨ρ', C, fs, M', G', L', rfl, hq, e, r, n, y⟩, ⟨fun _ _ f => f, fun _ _ f => f, fun _ _ f => f, fun _ _ f => f⟩⟩
    · rintro σ' cls od H' ⟨ρ', C, fs, M', G', L', rfl, ⟨rfl, hcc, hsub, hts⟩, e, r, n', y⟩
      have hod : od = none := by
        rcases y with y | ⟨hne, _⟩
        · exact y.2
        · exact absurd rfl hne
      refine ⟨C, rfl, ⟨hcc, hod⟩, hsub, fun x hx0 => ?_⟩
      exact ⟨G', L', _, M', _, r, n'.set i (d := .ref x) rfl, hts x, xok_no, ⟨fun σ1 H1 ⟨ρ1, G1, L1, M1, e1, r1, n1, h1⟩ => ⟨_, G1, L1, M1, e.trans e1, r1, n1.unset i, h1⟩, fun _ _ f => Fin.back e f, fun σ1 H1 ⟨ρ1, G1, L1, M1, e1, r1, n1, h1⟩ => ⟨_, G1, L1, M1, e.trans e1, r1, n1.unset i, h1⟩, fun σ1 H1 ⟨ρ1, G1, L1, M1, e1, r1, n1, h1⟩ => ⟨_, G1, L1, M1, e.trans e1, r1, n1.unset i, h1⟩⟩⟩
end
/-! in the suite -/
def fIsE (K : PySem.W.Frag) (x C : Addr) : List Dt → Ms → DQ → Prop
  | [.ref a, c], M, q => a = x ∧ (match clsD c with
    | some t' => (match PySem.W.kitOne K (.ref C) t' with
      | some b => q (.bl b) M
      | none => False)
    | none => False)
  | _, _, _ => False
theorem isED {K : PySem.W.Frag} {x C : Addr} : CaD K (rIsE K x C none) (fIsE K x C) := by
  intro G0 L0 H0 G L M H vs ds q e r n h
  unfold fIsE at h
  split at h
  · rename_i a c
    obtain ⟨rfl, h⟩ := h
    obtain ⟨v, u, rfl, n1, n2⟩ := denL_two n
    cases n1
    split at h
    · rename_i t' h2
      split at h
      · rename_i b hb
        exact ⟨u, t', b, rfl, (fun d z => nomatch z), cls_den n2 h2, hb, fin_v e r h⟩
      · exact h.elim
    · exact h.elim
  · exact h.elim
theorem fIsE_of {K : PySem.W.Frag} {x C : Addr} {c : Dt} {t' : Value} {b : Bool} {M : Ms} {q : DQ} (h2 : clsD c = some t') (h3 : PySem.W.kitOne K (.ref C) t' = some b) (k : q (.bl b) M) : fIsE K x C [.ref x, c] M q := by
  refine ⟨rfl, ?_⟩
  rw [h2]
  show (match PySem.W.kitOne K (.ref C) t' with | some b => q (.bl b) M | none => False)
  rw [h3]
  exact k
section
variable {X : Cx} {R : St → XK} {e e2 : Expr} {t : DA} {p pos : Pos} {x C : Addr}
theorem j_isE (K : PySem.W.Frag) (ex : ExcAt X x C none) (ty : ExcTy K C) (hm : X.mg "isinstance" = none) (ha : JA X R [e, e2] t) (he : starEach [e, e2] X.env = (false, eval e X.env) :: starEach [e2] X.env := by rfl) (hpl : (backTo pos (starEach [e2] X.env)).any (·.1) = false := by rfl) (hg : Gl X "isinstance" := by rfl) (hK : X.K = K := by rfl) : JE X R (.Call (.Name "isinstance" p) [e, e2] [] pos) (dFn (fIsE K x C) t) := by
  subst hK
  exact j_callB (call_isinstE ex ty) isED hm boot_isinstance' ha hg (by decide) (by decide) he hpl
theorem j_anyE (ex : ExcAt X x C none) (hm : X.mg "any" = none) (ha : JA X R [e] t) (hA : X.A.handled = some (.ref x) := by rfl) (he : starEach [e] X.env = (false, eval e X.env) :: starEach [] X.env := by rfl) (hpl : (backTo pos (starEach [] X.env)).any (·.1) = false := by rfl) (hg : Gl X "any" := by rfl) : JE X R (.Call (.Name "any" p) [e] [] pos) (dFn fAny t) :=
  j_callB (call_anyE ex hA) anyD hm boot_any' ha hg (by decide) (by decide) he hpl
end
/-! an item of a written list, at a place that is not known -/
theorem atI_mem {α : Type} {xs : List α} {i : Int} (h0 : 0 ≤ i) (h1 : i < xs.length) : ∃ y ∈ xs, atI xs i = some y := by
  refine ⟨xs[i.toNat]'(by omega), List.getElem_mem _, ?_⟩
  have e : xs[i.toNat]? = some (xs[i.toNat]'(by omega)) := List.getElem?_eq_getElem _
  have := atI_nat e
  rwa [show ((i.toNat : Nat) : Int) = i by omega] at this
theorem fIx_any {xs : List Dt} {i : Int} {M : Ms} {q : DQ} (h0 : 0 ≤ i) (h1 : i < xs.length) (k : ∀ y ∈ xs, q y M) : fIx (.lst xs) (.int i) M q := by
  obtain ⟨y, hy, e⟩ := atI_mem h0 h1
  exact fIx_seq (d := .lst xs) rfl e (k y hy)
theorem fIx_sign {z : Str} {i : Int} {M : Ms} {q : DQ} (hz : z.length ≤ sizeLine) (h0 : 0 ≤ i) (h1 : i < z.length) (k : ∀ c, q (.str ⟨#[c]⟩) M) : fIx (.str z) (.int i) M q := by
  obtain ⟨y, _, e⟩ := atI_mem (xs := z.cps.toList) h0 (by rw [show z.cps.toList.length = z.length from Array.length_toList]; exact h1)
  exact fIx_str hz e (k y)
end L2

/-! mathematics of fractions -/
namespace Fr0
/-- the gcd as an Int -/
def g (a b : Int) : Int := (Int.gcd a b : Nat)
theorem g_nonneg (a b : Int) : 0 ≤ g a b := Int.natCast_nonneg _
theorem g_pos {a b : Int} (h : b ≠ 0) : 0 < g a b := by
  have := Int.gcd_pos_of_ne_zero_right a h
  unfold g; omega
theorem g_zero {a : Int} (h : 0 ≤ a) : g a 0 = a := by
  unfold g; rw [Int.gcd_zero_right]; omega
theorem g_step {a b : Int} (hb : 0 < b) : g b (a.fmod b) = g a b := by
  unfold g
  rw [Int.fmod_eq_emod_of_nonneg a (Int.le_of_lt hb), Int.gcd_comm a b]
  congr 1
  refine Int.gcd_right_eq_iff.mpr fun c hc => ?_
  rw [Int.emod_def]
  constructor
  · intro h
    have := Int.dvd_add h (Int.dvd_mul_of_dvd_left (c := a / b) hc)
    rwa [Int.sub_add_cancel] at this
  · intro h
    exact Int.dvd_sub h (Int.dvd_mul_of_dvd_left (c := a / b) hc)
theorem g_abs (a b : Int) : g (if a < 0 then -a else a) (if b < 0 then -b else b) = g a b := by
  unfold g
  split <;> split <;> simp
theorem fmod_in {a b : Int} (hb : 0 < b) : 0 ≤ a.fmod b ∧ a.fmod b < b := by
  rw [Int.fmod_eq_emod_of_nonneg a (Int.le_of_lt hb)]
  exact ⟨Int.emod_nonneg _ (by omega), Int.emod_lt_of_pos _ hb⟩
def dv (t b : Int) : Int := if b < 0 then -(g t b) else g t b
def frac (t b : Int) : Int × Int := (t.fdiv (dv t b), b.fdiv (dv t b))
theorem dv_ne {t b : Int} (h : b ≠ 0) : dv t b ≠ 0 := by
  have := g_pos (a := t) h
  unfold dv; split <;> omega
theorem fdiv_mul {k p : Int} (h : k ≠ 0) : (k * p).fdiv k = p := by
  rw [Int.mul_comm]; exact Int.mul_fdiv_cancel p h
theorem dv_parts {t b : Int} (h : b ≠ 0) : ∃ p q : Int, t = dv t b * p ∧ b = dv t b * q ∧ 0 < q ∧ Int.gcd p q = 1 := by
  have hg := g_pos (a := t) h
  have h0 : 0 < Int.gcd t b := Int.gcd_pos_of_ne_zero_right t h
  obtain ⟨p, hp⟩ := Int.gcd_dvd_left t b
  obtain ⟨q, hq⟩ := Int.gcd_dvd_right t b
  have hc : Int.gcd p q = 1 := by
    have e := Int.gcd_ediv_gcd_ediv_gcd h0
    have n0 : (Int.gcd t b : Int) ≠ 0 := by omega
    have e1 : t / (Int.gcd t b : Int) = p := by
      conv => lhs; arg 1; rw [hp]
      exact Int.mul_ediv_cancel_left p n0
    have e2 : b / (Int.gcd t b : Int) = q := by
      conv => lhs; arg 1; rw [hq]
      exact Int.mul_ediv_cancel_left q n0
    rwa [e1, e2] at e
  have hp' : t = g t b * p := hp
  have hq' : b = g t b * q := hq
  by_cases hb : b < 0
  · have hd : dv t b = -(g t b) := by unfold dv; rw [if_pos hb]
    refine ⟨-p, -q, ?_, ?_, ?_, ?_⟩
    · rw [hd, Int.neg_mul_neg]; exact hp'
    · rw [hd, Int.neg_mul_neg]; exact hq'
    · have : g t b * q < 0 := by rw [← hq']; exact hb
      by_cases q0 : 0 ≤ q
      · exact absurd (Int.mul_nonneg (Int.le_of_lt hg) q0) (by omega)
      · omega
    · simpa using hc
  · have hd : dv t b = g t b := by unfold dv; rw [if_neg hb]
    refine ⟨p, q, by rw [hd]; exact hp', by rw [hd]; exact hq', ?_, hc⟩
    have : 0 < g t b * q := by rw [← hq']; omega
    exact Int.pos_of_mul_pos_right this hg
theorem frac_spec {t b : Int} (h : b ≠ 0) : ∃ p q : Int, frac t b = (p, q) ∧ 0 < q ∧ Int.gcd p q = 1 ∧ t = dv t b * p ∧ b = dv t b * q := by
  obtain ⟨p, q, hp, hq, h0, hc⟩ := dv_parts (t := t) h
  have n0 := dv_ne (t := t) h
  refine ⟨p, q, ?_, h0, hc, hp, hq⟩
  unfold frac
  have e1 : t.fdiv (dv t b) = p := by conv => lhs; arg 1; rw [hp]
                                      exact fdiv_mul n0
  have e2 : b.fdiv (dv t b) = q := by conv => lhs; arg 1; rw [hq]
                                      exact fdiv_mul n0
  rw [e1, e2]
/-- the cross product -/
theorem frac_cross {t b : Int} (h : b ≠ 0) : t * (frac t b).2 = b * (frac t b).1 := by
  obtain ⟨p, q, e, _, _, hp, hq⟩ := frac_spec (t := t) h
  rw [e]
  show t * q = b * p
  calc t * q = dv t b * p * q := by rw [← hp]
    _ = dv t b * q * p := by rw [Int.mul_assoc, Int.mul_comm p q, ← Int.mul_assoc]
    _ = b * p := by rw [← hq]
theorem frac_pos {t b : Int} (h : b ≠ 0) : 0 < (frac t b).2 := by
  obtain ⟨p, q, e, h0, _⟩ := frac_spec (t := t) h
  rw [e]; exact h0
theorem frac_low {t b : Int} (h : b ≠ 0) : Int.gcd (frac t b).1 (frac t b).2 = 1 := by
  obtain ⟨p, q, e, _, hc, _⟩ := frac_spec (t := t) h
  rw [e]; exact hc
theorem dvd_coprime {k m n : Int} (h : k ∣ m * n) (hc : Int.gcd k m = 1) : k ∣ n := by
  have := (Int.dvd_gcd_mul_iff_dvd_mul (k := k) (n := m) (m := n)).mpr h
  rw [hc] at this
  simpa using this
/-- there is one alone -/
theorem low_unique {p q p' q' : Int} (hq : 0 < q) (hq' : 0 < q') (h : Int.gcd p q = 1) (h' : Int.gcd p' q' = 1) (e : p * q' = p' * q) : p = p' ∧ q = q' := by
  have d1 : q ∣ q' := by
    have : q ∣ p * q' := ⟨p', by rw [e, Int.mul_comm]⟩
    exact dvd_coprime this (by rw [Int.gcd_comm]; exact h)
  have d2 : q' ∣ q := by
    have : q' ∣ p' * q := ⟨p, by rw [← e, Int.mul_comm]⟩
    exact dvd_coprime this (by rw [Int.gcd_comm]; exact h')
  have eq : q = q' := Int.le_antisymm (Int.le_of_dvd hq' d1) (Int.le_of_dvd hq d2)
  subst eq
  exact ⟨Int.eq_of_mul_eq_mul_right (by omega) e, rfl⟩
theorem frac_of {t b p q : Int} (h : b ≠ 0) (hq : 0 < q) (hc : Int.gcd p q = 1) (e : t * q = b * p) : frac t b = (p, q) := by
  have h1 := frac_cross (t := t) h
  have h2 := frac_pos (t := t) h
  have h3 := frac_low (t := t) h
  have h4 : (frac t b).1 * q = p * (frac t b).2 := by
    have : b * ((frac t b).1 * q) = b * (p * (frac t b).2) := by
      rw [← Int.mul_assoc, ← h1, Int.mul_right_comm, e, Int.mul_assoc]
    exact Int.eq_of_mul_eq_mul_left h this
  have := low_unique h2 hq h3 hc h4
  exact Prod.ext this.1 this.2
theorem frac_neg {t b : Int} (h : b ≠ 0) : frac (-t) (-b) = frac t b := by
  have e := frac_of (t := -t) (b := -b) (p := (frac t b).1) (q := (frac t b).2) (by omega) (frac_pos h) (frac_low h) (by rw [Int.neg_mul, Int.neg_mul, frac_cross h])
  rw [e]
theorem frac_self {p q : Int} (hq : 0 < q) (hc : Int.gcd p q = 1) : frac p q = (p, q) := frac_of (by omega) hq hc (Int.mul_comm _ _)
end Fr0

namespace Fr0
theorem dv_natAbs_le {t b : Int} (h : b ≠ 0) : (dv t b).natAbs ≤ b.natAbs := by
  have e : (dv t b).natAbs = Int.gcd t b := by unfold dv g; split <;> omega
  rw [e]
  exact Int.gcd_le_natAbs_right t h
theorem frac_le1 {t b : Int} (h : b ≠ 0) : (frac t b).1.natAbs ≤ t.natAbs := by
  obtain ⟨p, q, e, _, _, hp, _⟩ := frac_spec (t := t) h
  have n0 := dv_ne (t := t) h
  rw [e]
  show p.natAbs ≤ t.natAbs
  have : t.natAbs = (dv t b).natAbs * p.natAbs := by conv => lhs; rw [hp]
                                                     exact Int.natAbs_mul _ _
  rw [this]
  exact Nat.le_mul_of_pos_left _ (by omega)
theorem frac_le2 {t b : Int} (h : b ≠ 0) : (frac t b).2.natAbs ≤ b.natAbs := by
  obtain ⟨p, q, e, _, _, _, hq⟩ := frac_spec (t := t) h
  have n0 := dv_ne (t := t) h
  rw [e]
  show q.natAbs ≤ b.natAbs
  have : b.natAbs = (dv t b).natAbs * q.natAbs := by conv => lhs; rw [hq]
                                                     exact Int.natAbs_mul _ _
  rw [this]
  exact Nat.le_mul_of_pos_left _ (by omega)
/-- by a bottom above 0 -/
theorem frac_up {t b : Int} (h : 0 < b) : frac t b = (t.fdiv (g t b), b.fdiv (g t b)) := by
  unfold frac dv
  rw [if_neg (by omega)]
theorem frac_down {t b : Int} (h : b < 0) : frac t b = ((0 - t).fdiv (g (0 - t) (0 - b)), (0 - b).fdiv (g (0 - t) (0 - b))) := by
  rw [← frac_up (by omega), show (0 : Int) - t = -t by omega, show (0 : Int) - b = -b by omega, frac_neg (by omega)]
end Fr0

/-! mathematics of texts -/
namespace Tx
open PySem PySem.NumText
def dig (n : Nat) : List Nat := (Nat.toDigits 10 n).map Char.toNat
theorem digitC : ∀ d : Nat, d < 10 → (Nat.digitChar d).toNat = 48 + d := by decide
theorem dig_small {n : Nat} (h : n < 10) : dig n = [48 + n] := by
  unfold dig
  rw [Nat.toDigits_of_lt_base h, List.map_cons, List.map_nil, digitC n h]
theorem dig_big {n : Nat} (h : 10 ≤ n) : dig n = dig (n / 10) ++ [48 + n % 10] := by
  have hm : n % 10 < 10 := Nat.mod_lt n (by decide)
  have t : Nat.toDigits 10 (n / 10) ++ Nat.toDigits 10 (n % 10) = Nat.toDigits 10 (10 * (n / 10) + n % 10) := Nat.toDigits_append_toDigits (by decide) (by omega) hm
  rw [Nat.div_add_mod] at t
  unfold dig
  rw [← t, List.map_append, Nat.toDigits_of_lt_base hm, List.map_cons, List.map_nil, digitC _ hm]
theorem dig_all (n : Nat) : AllDigits (dig n) := by
  induction n using Nat.strongRecOn with
  | _ n ih =>
    by_cases h : n < 10
    · rw [dig_small h]
      intro c hc
      have : c = 48 + n := by simpa using hc
      omega
    · rw [dig_big (by omega)]
      intro c hc
      rcases List.mem_append.mp hc with z | z
      · exact ih (n / 10) (by omega) c z
      · have : c = 48 + n % 10 := by simpa using z
        omega
theorem dig_ne (n : Nat) : dig n ≠ [] := by
  by_cases h : n < 10
  · rw [dig_small h]; simp
  · rw [dig_big (by omega)]; simp
theorem dig_val (n : Nat) : digitsVal (dig n) = n := PySem.W.KIN.val_back n
theorem dig_len : ∀ (k n : Nat), n < 10 ^ (k + 1) → (dig n).length ≤ k + 1
  | 0, n, h => by rw [dig_small (by simpa using h)]; simp
  | k + 1, n, h => by
    by_cases h10 : n < 10
    · rw [dig_small h10]; simp
    · rw [dig_big (by omega), List.length_append]
      have := dig_len k (n / 10) (by
        rw [Nat.pow_succ] at h
        omega)
      simp only [List.length_cons, List.length_nil]
      omega
theorem dig_head {n : Nat} (h : n ≠ 0) : ∃ c r, dig n = c :: r ∧ c ≠ 48 := by
  induction n using Nat.strongRecOn with
  | _ n ih =>
    by_cases h10 : n < 10
    · exact ⟨48 + n, [], dig_small h10, by omega⟩
    · obtain ⟨c, r, e, hc⟩ := ih (n / 10) (by omega) (by omega)
      exact ⟨c, r ++ [48 + n % 10], by rw [dig_big (by omega), e]; rfl, hc⟩
/-- a number as it is written -/
def sg (i : Int) : List Nat := if i < 0 then [45] else []
theorem str_int (i : Int) : (Str.ofString (toString i)).cps.toList = sg i ++ dig i.natAbs := by
  cases i with
  | ofNat m => exact PySem.W.KIN.signs_num m
  | negSucc m =>
    rw [show sg (Int.negSucc m) = [45] from if_pos (Int.negSucc_lt_zero m)]
    have e : (Str.ofString (toString (Int.negSucc m))).cps.toList = (toString (Int.negSucc m)).toList.map Char.toNat := PyProof.Rows.signs_ofString _
    rw [e]
    have e2 : toString (Int.negSucc m) = "-" ++ toString (m + 1) := rfl
    rw [e2, String.toList_append, List.map_append]
    have e3 : (toString (m + 1)).toList.map Char.toNat = dig (m + 1) := by
      show (Nat.repr (m + 1)).toList.map Char.toNat = _
      rw [Nat.toList_repr]
      rfl
    rw [e3]
    rfl
def mk (cs : List Nat) : Str := ⟨cs.toArray⟩
theorem mk_cps (cs : List Nat) : (mk cs).cps.toList = cs := rfl
theorem mk_length (cs : List Nat) : (mk cs).length = cs.length := by simp [mk, Str.length]
theorem mk_of {z : Str} {cs : List Nat} (h : z.cps.toList = cs) : z = mk cs := by
  cases z with
  | mk a =>
    have : a.toList = cs := h
    subst this
    rfl
theorem mk_append (a b : List Nat) : mk a ++ mk b = mk (a ++ b) := mk_of (by show (a.toArray ++ b.toArray).toList = a ++ b; simp)
theorem str_mk (i : Int) : Str.ofString (toString i) = mk (sg i ++ dig i.natAbs) := mk_of (str_int i)
/-! split by one sign -/
theorem cut_inj {c : Nat} : ∀ {p q X Y : List Nat}, c ∉ p → c ∉ q → p ++ c :: X = q ++ c :: Y → p = q ∧ X = Y
  | [], [], X, Y, _, _, e => ⟨rfl, by simpa using e⟩
  | [], b :: q, X, Y, _, hq, e => by
    have : c = b := by simpa using (List.cons.inj e).1
    exact absurd (by rw [this]; exact List.mem_cons_self) hq
  | a :: p, [], X, Y, hp, _, e => by
    have : a = c := by simpa using (List.cons.inj e).1
    exact absurd (by rw [← this]; exact List.mem_cons_self) hp
  | a :: p, b :: q, X, Y, hp, hq, e => by
    have e1 := (List.cons.inj e).1
    have e2 := (List.cons.inj e).2
    obtain ⟨h1, h2⟩ := cut_inj (fun z => hp (List.mem_cons_of_mem _ z)) (fun z => hq (List.mem_cons_of_mem _ z)) e2
    exact ⟨by rw [e1, h1], h2⟩
theorem join_two (s x y : Str) (r : List Str) : (Str.join s (x :: y :: r)).cps.toList = x.cps.toList ++ (s.cps.toList ++ (Str.join s (y :: r)).cps.toList) := by
  show ((x.cps ++ s.cps) ++ (Str.join s (y :: r)).cps).toList = _
  simp
theorem str_ext {x y : Str} (h : x.cps.toList = y.cps.toList) : x = y := (mk_of h).trans (mk_of rfl).symm
theorem join_inj {c : Nat} : ∀ (ps qs : List Str), ps ≠ [] → qs ≠ [] → (∀ p ∈ ps, c ∉ p.cps.toList) → (∀ p ∈ qs, c ∉ p.cps.toList) → (Str.join ⟨#[c]⟩ ps).cps.toList = (Str.join ⟨#[c]⟩ qs).cps.toList → ps = qs
  | [], _, h, _, _, _, _ => absurd rfl h
  | _, [], _, h, _, _, _ => absurd rfl h
  | [p], [q], _, _, _, _, e => by rw [str_ext (x := p) (y := q) e]
  | [p], q :: q' :: r, _, _, hp, _, e => by
    rw [join_two] at e
    have e : p.cps.toList = q.cps.toList ++ ([c] ++ _) := e
    exact absurd (by rw [e]; simp) (hp p List.mem_cons_self)
  | p :: p' :: r, [q], _, _, _, hq, e => by
    rw [join_two] at e
    have e : p.cps.toList ++ ([c] ++ _) = q.cps.toList := e
    exact absurd (by rw [← e]; simp) (hq q List.mem_cons_self)
  | p :: p' :: r, q :: q' :: s, _, _, hp, hq, e => by
    rw [join_two, join_two] at e
    obtain ⟨h1, h2⟩ := cut_inj (c := c) (hp p List.mem_cons_self) (hq q List.mem_cons_self) e
    rw [str_ext h1, join_inj (p' :: r) (q' :: s) (by simp) (by simp) (fun x hx => hp x (List.mem_cons_of_mem _ hx)) (fun x hx => hq x (List.mem_cons_of_mem _ hx)) h2]
theorem split_ne (x y : Str) : Txt.split x y ≠ [] := by
  unfold Txt.split
  split
  · simp
  · split
    · simp
    · rw [StrLaws.partsBetween_eq]
      obtain ⟨p, r, e⟩ := StrLaws.partsFrom_ne x y.length 0 (Builtin.Str.occurrences x y 0 x.length (x.length + 1))
      rw [e]; simp
theorem split_unique {c : Nat} {ps : List Str} (hn : ps ≠ []) (hf : ∀ p ∈ ps, c ∉ p.cps.toList) {x : Str} (hj : (Str.join ⟨#[c]⟩ ps).cps.toList = x.cps.toList) : Txt.split x ⟨#[c]⟩ = ps :=
  join_inj _ _ (split_ne x _) hn (StrLaws.split_free x c) hf (by rw [StrLaws.join_split]; exact hj.symm)
theorem split_no {c : Nat} {cs : List Nat} (h : c ∉ cs) : Txt.split (mk cs) ⟨#[c]⟩ = [mk cs] := split_unique (by simp) (fun p hp => by
  have : p = mk cs := by simpa using hp
  rw [this]; exact h) rfl
theorem split_at {c : Nat} {a b : List Nat} (ha : c ∉ a) (hb : c ∉ b) : Txt.split (mk (a ++ c :: b)) ⟨#[c]⟩ = [mk a, mk b] := split_unique (by simp) (fun p hp => by
  have : p = mk a ∨ p = mk b := by simpa using hp
  rcases this with e | e <;> rw [e] <;> assumption) (by rw [join_two]; rfl)
/-! figures -/
def OkF (cs : List Nat) : Prop := cs ≠ [] ∧ cs.length ≤ 60 ∧ AllDigits cs ∧ (cs.head? = some 48 → cs = [48])
instance (cs : List Nat) : Decidable (AllDigits cs) := by unfold AllDigits; infer_instance
instance (cs : List Nat) : Decidable (OkF cs) := by unfold OkF; infer_instance
def figs (cs : List Nat) : Option Nat := if OkF cs then some (digitsVal cs) else none
def tops (cs : List Nat) : Option Int := match cs with
  | 45 :: r => (match figs r with
    | some n => if n = 0 then none else some (-(n : Int))
    | none => none)
  | _ => (match figs cs with
    | some n => some (n : Int)
    | none => none)
theorem figs_dig {n : Nat} (h : n < 10 ^ 60) : figs (dig n) = some n := by
  have hk : OkF (dig n) := by
    refine ⟨dig_ne n, dig_len 59 n h, dig_all n, fun e => ?_⟩
    by_cases h0 : n = 0
    · rw [h0]; rfl
    · obtain ⟨c, r, e1, hc⟩ := dig_head h0
      rw [e1] at e
      exact absurd (Option.some.inj e) hc
  unfold figs
  rw [if_pos hk, dig_val]
theorem tops_int {i : Int} (h : i.natAbs < 10 ^ 60) : tops (sg i ++ dig i.natAbs) = some i := by
  by_cases hi : i < 0
  · have e : sg i ++ dig i.natAbs = 45 :: dig i.natAbs := by unfold sg; rw [if_pos hi]; rfl
    rw [e]
    unfold tops
    simp only [figs_dig h]
    rw [if_neg (by omega)]
    congr 1
    omega
  · have e : sg i ++ dig i.natAbs = dig i.natAbs := by unfold sg; rw [if_neg hi]; rfl
    rw [e]
    unfold tops
    have hd := dig_all i.natAbs
    split
    · rename_i r er
      have := hd 45 (by rw [er]; exact List.mem_cons_self)
      omega
    · simp only [figs_dig h]
      congr 1
      omega
/-- a fraction as it is written -/
def wr (p b : Int) : List Nat := sg p ++ dig p.natAbs ++ (if b = 1 then [] else 47 :: dig b.natAbs)
theorem no47 (i : Int) : 47 ∉ sg i ++ dig i.natAbs := fun h => by
  rcases List.mem_append.mp h with z | z
  · unfold sg at z
    split at z
    · have : (47 : Nat) = 45 := by simpa using z
      omega
    · cases z
  · have := dig_all i.natAbs 47 z
    omega
theorem no47d (n : Nat) : 47 ∉ dig n := fun z => by
  have := dig_all n 47 z
  omega
def rd (z : Str) : Option (Int × Int) := match Txt.split z ⟨#[47]⟩ with
  | [a] => (match tops a.cps.toList with
    | some t => some (Fr0.frac t 1)
    | none => none)
  | [a, b] => (match tops a.cps.toList with
    | some t => (match figs b.cps.toList with
      | some n => if n < 2 then none else if (Fr0.frac t n).2 = n then some (Fr0.frac t n) else none
      | none => none)
    | none => none)
  | _ => none
theorem rd_wr {p b : Int} (hb : 0 < b) (hc : Int.gcd p b = 1) (h1 : p.natAbs < 10 ^ 60) (h2 : b.natAbs < 10 ^ 60) : rd (mk (wr p b)) = some (p, b) := by
  unfold rd wr
  by_cases hb1 : b = 1
  · subst hb1
    rw [if_pos rfl, List.append_nil, split_no (no47 p)]
    simp only [mk_cps, tops_int h1]
    rw [Fr0.frac_self (by decide) hc]
  · rw [if_neg hb1, split_at (no47 p) (no47d _)]
    simp only [mk_cps, tops_int h1, figs_dig h2]
    have e : ((b.natAbs : Nat) : Int) = b := by omega
    rw [if_neg (by omega), e, Fr0.frac_self hb hc, if_pos rfl]
theorem wr_len {p b : Int} (h1 : p.natAbs < 10 ^ 60) (h2 : b.natAbs < 10 ^ 60) : (wr p b).length ≤ 122 := by
  unfold wr sg
  have := dig_len 59 _ h1
  have := dig_len 59 _ h2
  simp only [List.length_append]
  split <;> split <;> simp <;> omega
/-! signs in a text -/
theorem in_one (z : Str) (c : Nat) : (!(Builtin.Str.occurrences z ⟨#[c]⟩ 0 z.length 1).isEmpty) = decide (c ∈ z.cps.toList) := StrLaws.found_one z c
theorem log_small {i : Int} (h : i.natAbs < 10 ^ 60) : i.natAbs.log2 < 1920 := by
  by_cases h0 : i.natAbs = 0
  · rw [h0]; decide
  · exact (Nat.log2_lt h0).mpr (Nat.lt_of_lt_of_le h (by decide +kernel))
end Tx

/-! a text with strokes -/
namespace Tx
open PySem PySem.NumText
theorem part_one (z : Str) : (47 ∉ z.cps.toList ∧ Txt.partition z ⟨#[47]⟩ = (z, Str.empty, Str.empty)) ∨ ∃ a b, z.cps.toList = a ++ 47 :: b ∧ 47 ∉ a ∧ Txt.partition z ⟨#[47]⟩ = (mk a, ⟨#[47]⟩, mk b) := by
  rcases PyProof.Rows.partition_whole z ⟨#[47]⟩ with ⟨hp, hn⟩ | ⟨i, hp, hi, hn⟩
  · refine .inl ⟨fun h => ?_, hp⟩
    obtain ⟨i, hi⟩ := (PyProof.Rows.mem_iff_at z 47).mp h
    exact hn i hi
  · have hg : z.cps.toList[i]? = some 47 := (StrLaws.subAt_one z 47 i).mp hi
    have hl : i < z.cps.toList.length := (List.getElem?_eq_some_iff.mp hg).1
    have hlen : z.cps.toList.length = z.length := Array.length_toList
    refine .inr ⟨z.cps.toList.take i, z.cps.toList.drop (i + 1), ?_, fun h => ?_, ?_⟩
    · have e : z.cps.toList.drop i = 47 :: z.cps.toList.drop (i + 1) := by
        rw [List.drop_eq_getElem_cons hl, (List.getElem?_eq_some_iff.mp hg).2]
      rw [← e, List.take_append_drop]
    · obtain ⟨k, hk, e⟩ := List.getElem_of_mem h
      have hk' : k < i := by rw [List.length_take] at hk; omega
      refine hn k hk' ((StrLaws.subAt_one z 47 k).mpr ?_)
      rw [List.getElem_take] at e
      rw [List.getElem?_eq_getElem (by omega), e]
    · rw [hp]
      have e1 : Builtin.Str.strSub z 0 i = mk (z.cps.toList.take i) := mk_of (by rw [StrLaws.strSub_toList]; simp)
      have e2 : Builtin.Str.strSub z (i + (⟨#[47]⟩ : Str).length) z.length = mk (z.cps.toList.drop (i + 1)) := mk_of (by
        rw [StrLaws.strSub_toList]
        show (z.cps.toList.drop (i + 1)).take (z.length - (i + 1)) = _
        rw [List.take_of_length_le (by rw [List.length_drop]; omega)])
      rw [e1, e2]
theorem split_cons {z : Str} {a b : List Nat} (h : z.cps.toList = a ++ 47 :: b) (ha : 47 ∉ a) : Txt.split z ⟨#[47]⟩ = mk a :: Txt.split (mk b) ⟨#[47]⟩ := by
  refine split_unique (by simp) (fun p hp => ?_) ?_
  · rcases List.mem_cons.mp hp with e | e
    · rw [e]; exact ha
    · exact StrLaws.split_free _ _ p e
  · have hne := split_ne (mk b) ⟨#[47]⟩
    have hj := StrLaws.join_split (mk b) ⟨#[47]⟩
    cases hs : Txt.split (mk b) ⟨#[47]⟩ with
    | nil => exact absurd hs hne
    | cons p r =>
      rw [hs] at hj
      rw [join_two, hj, h]
      rfl
theorem frac_one (t : Int) : Fr0.frac t 1 = (t, 1) := Fr0.frac_self (by decide) (by simp)
/-- what is read: the head, and what stands behind the first stroke -/
def rdH (a : List Nat) (ob : Option (List Nat)) : Option (Int × Int) := match tops a with
  | none => none
  | some t => (match ob with
    | none => some (t, 1)
    | some b => (match figs b with
      | none => none
      | some n => if n < 2 then none else if Fr0.g t n = 1 then some (t, (n : Int)) else none))
theorem rd_no {z : Str} (h : 47 ∉ z.cps.toList) : rd z = rdH z.cps.toList none := by
  have e : Txt.split z ⟨#[47]⟩ = [z] := by
    have := split_no (cs := z.cps.toList) h
    rwa [← mk_of rfl] at this
  unfold rd rdH
  rw [e]
  dsimp only
  cases tops z.cps.toList with
  | none => rfl
  | some t => simp only [frac_one]
theorem figs47 {b : List Nat} (h : 47 ∈ b) : figs b = none := if_neg fun hk => by
  have := hk.2.2.1 47 h
  omega
theorem rd_at {z : Str} {a b : List Nat} (h : z.cps.toList = a ++ 47 :: b) (ha : 47 ∉ a) : rd z = rdH a (some b) := by
  unfold rd rdH
  rw [split_cons h ha]
  by_cases hb : 47 ∈ b
  · have f47 := figs47 hb
    obtain ⟨a2, b2, e2, h2⟩ : ∃ a2 b2, b = a2 ++ 47 :: b2 ∧ 47 ∉ a2 := by
      rcases part_one (mk b) with ⟨hn, _⟩ | ⟨a2, b2, e, hn, _⟩
      · exact absurd hb hn
      · exact ⟨a2, b2, e, hn⟩
    rw [split_cons (z := mk b) e2 h2]
    have hne := split_ne (mk b2) ⟨#[47]⟩
    cases hs2 : Txt.split (mk b2) ⟨#[47]⟩ with
    | nil => exact absurd hs2 hne
    | cons p r =>
      cases tops a with
      | none => rfl
      | some t => simp only [f47]
  · rw [split_no hb]
    simp only [mk_cps]
    cases tops a with
    | none => rfl
    | some t =>
      cases hf : figs b with
      | none => rfl
      | some n =>
        dsimp only
        by_cases hn : n < 2
        · rw [if_pos hn, if_pos hn]
        · rw [if_neg hn, if_neg hn]
          by_cases hg : Fr0.g t n = 1
          · have hc : Int.gcd t n = 1 := by unfold Fr0.g at hg; omega
            rw [if_pos hg, Fr0.frac_self (by omega) hc, if_pos rfl]
          · rw [if_neg hg, if_neg fun e => hg ?_]
            have n0 : (n : Int) ≠ 0 := by omega
            have hl := Fr0.frac_low (t := t) n0
            have hx := Fr0.frac_cross (t := t) n0
            rw [e] at hl hx
            have e1 : (Fr0.frac t n).1 = t := by
              have : (n : Int) * (Fr0.frac t n).1 = n * t := by rw [← hx, Int.mul_comm]
              exact Int.eq_of_mul_eq_mul_left n0 this
            rw [e1] at hl
            unfold Fr0.g
            rw [hl]; rfl
/-- the head without its - -/
def pl (hd : List Nat) : List Nat := match hd with
  | 45 :: r => r
  | _ => hd
theorem val_zero : ∀ {cs : List Nat}, OkF cs → digitsVal cs = 0 → cs = [48]
  | [], h, _ => absurd rfl h.1
  | c :: r, h, e => by
    have hc := h.2.2.1.head
    refine h.2.2.2 ?_
    have mono : ∀ (l : List Nat) (acc : Nat), acc ≤ l.foldl (fun acc c => acc * 10 + (c - 48)) acc := by
      intro l
      induction l with
      | nil => intro acc; exact Nat.le_refl _
      | cons x l ih => intro acc; exact Nat.le_trans (show acc ≤ acc * 10 + (x - 48) by omega) (ih _)
    have := mono r (0 * 10 + (c - 48))
    have e' : r.foldl (fun acc c => acc * 10 + (c - 48)) (0 * 10 + (c - 48)) = 0 := e
    have : c = 48 := by omega
    rw [this]; rfl
theorem tops_good {hd : List Nat} (h : OkF (pl hd)) (hne : hd ≠ [45, 48]) : ∃ t, tops hd = some t ∧ intText? (mk hd) = some t := by
  by_cases hm : ∃ r, hd = 45 :: r
  · obtain ⟨r, rfl⟩ := hm
    have h : OkF r := h
    have hf : figs r = some (digitsVal r) := if_pos h
    have h0 : digitsVal r ≠ 0 := fun e => hne (by rw [val_zero h e])
    refine ⟨-(digitsVal r : Int), ?_, intText_neg (x := mk (45 :: r)) rfl h.2.2.1 h.1 (by rw [mk_length]; have := h.2.1; simp; omega)⟩
    show (match figs r with | some n => if n = 0 then none else some (-(n : Int)) | none => none) = _
    rw [hf]
    exact if_neg h0
  · have e : pl hd = hd := by
      unfold pl
      split
      · exact absurd ⟨_, rfl⟩ hm
      · rfl
    rw [e] at h
    have hf : figs hd = some (digitsVal hd) := if_pos h
    refine ⟨digitsVal hd, ?_, intText_digits (x := mk hd) h.2.2.1 h.1 (by rw [mk_length]; have := h.2.1; omega)⟩
    unfold tops
    split
    · exact absurd ⟨_, rfl⟩ hm
    · rw [hf]
theorem tops_bad {hd : List Nat} (h : ¬ OkF (pl hd) ∨ hd = [45, 48]) : tops hd = none := by
  rcases h with h | h
  · by_cases hm : ∃ r, hd = 45 :: r
    · obtain ⟨r, rfl⟩ := hm
      have hf : figs r = none := if_neg h
      show (match figs r with | some n => if n = 0 then none else some (-(n : Int)) | none => none) = _
      rw [hf]
    · have e : pl hd = hd := by
        unfold pl
        split
        · exact absurd ⟨_, rfl⟩ hm
        · rfl
      rw [e] at h
      have hf : figs hd = none := if_neg h
      unfold tops
      split
      · exact absurd ⟨_, rfl⟩ hm
      · rw [hf]
  · rw [h]; rfl
theorem slice_to1 (hd : List Nat) : Txt.slice (mk hd) none (some 1) = mk (hd.take 1) := by
  cases hd with
  | nil => decide +kernel
  | cons c r =>
    have e : Txt.slice (mk (c :: r)) none (some 1) = StrLaws.sliceText (mk (c :: r)) none (some 1) := rfl
    rw [e, StrLaws.sliceText_to (by rw [mk_cps]; simp; omega), mk_cps]
    rfl
end Tx

namespace Pg
open PySem L2
def top (i : Nat) : Stmt := PySem.Challenge.pw_chanceduel_k04_fractions_read.main.body.getD i (.Pass ⟨0, 0, 0, 0⟩)
abbrev sCommonDivisor : Stmt := top 13
abbrev sFraction : Stmt := top 14
abbrev sReadFigures : Stmt := top 18
abbrev sReadTop : Stmt := top 19
abbrev sReadFraction : Stmt := top 20
abbrev sLawNth : Stmt := top 22
abbrev sLawFigures : Stmt := top 23
abbrev sLawText : Stmt := top 24
abbrev sLawGcd : Stmt := top 25
abbrev sLawAreFigures : Stmt := top 26
abbrev sLawDue : Stmt := top 27
abbrev sLawWhole : Stmt := top 28
abbrev sLawRight : Stmt := top 29
abbrev sLaw : Stmt := top 30
end Pg
namespace Pg
open PySem L2 Fr0 Tx
abbrev VB : List Value := [.type "ValueError", .type "Exception", .type "BaseException", .type "object"]
structure Ev (K : PySem.W.Frag) (mg : Str → Option Value) (CN CT CD c1 c2 c3 c4 c5 c6 c7 c8 : Addr) : Prop where
  n_len : mg "len" = none
  n_abs : mg "abs" = none
  n_isinstance : mg "isinstance" = none
  n_int : mg "int" = none
  n_bool : mg "bool" = none
  n_str : mg "str" = none
  n_tuple : mg "tuple" = none
  n_range : mg "range" = none
  n_max : mg "max" = none
  n_min : mg "min" = none
  n_any : mg "any" = none
  n_all : mg "all" = none
  ib : PySem.W.kitOne K (.type "int") (.type "bool") = some false
  mNoNumber : mg "NoNumber" = some (.ref CN)
  eNoNumber : ExcCls K CN VB "ValueError.__new__"
  mNoText : mg "NoText" = some (.ref CT)
  eNoText : ExcCls K CT VB "ValueError.__new__"
  mDuelError : mg "DuelError" = some (.ref CD)
  eDuelError : ExcCls K CD VB "ValueError.__new__"
  tNoText : ExcTy K CT
  sub : PySem.W.subIn K (.ref CT) (.ref CD) = some true
  mNoName : mg "NoName" = some (.ref c1)
  mNoFloor : mg "NoFloor" = some (.ref c2)
  mNoRow : mg "NoRow" = some (.ref c3)
  mNoPlace : mg "NoPlace" = some (.ref c4)
  mNoPlan : mg "NoPlan" = some (.ref c5)
  mNoGoal : mg "NoGoal" = some (.ref c6)
  mNoAnswer : mg "NoAnswer" = some (.ref c7)
  mManyAnswers : mg "ManyAnswers" = some (.ref c8)
  k0 : PySem.W.kitOne K (.ref CT) (.ref CN) = some false
  k1 : PySem.W.kitOne K (.ref CT) (.ref c1) = some false
  k2 : PySem.W.kitOne K (.ref CT) (.ref c2) = some false
  k3 : PySem.W.kitOne K (.ref CT) (.ref c3) = some false
  k4 : PySem.W.kitOne K (.ref CT) (.ref c4) = some false
  k5 : PySem.W.kitOne K (.ref CT) (.ref c5) = some false
  k6 : PySem.W.kitOne K (.ref CT) (.ref c6) = some false
  k7 : PySem.W.kitOne K (.ref CT) (.ref c7) = some false
  k8 : PySem.W.kitOne K (.ref CT) (.ref c8) = some false
  mFIGURES : ∃ tk, mg "FIGURES" = some (.str "0123456789" tk)
  mMOST_FIGURES : ∃ tk, mg "MOST_FIGURES" = some (.int 60 tk)
theorem k_self {K : PySem.W.Frag} {T : String} : PySem.W.kitOne K (.type T) (.type T) = some true := by
  unfold PySem.W.kitOne
  rw [if_pos (beq_self_eq_true _)]
theorem kit_yes {K : PySem.W.Frag} {C : Addr} : PySem.W.kitOne K (.ref C) (.ref C) = some true := by
  unfold PySem.W.kitOne
  rw [if_pos (beq_self_eq_true _)]
theorem kit_no {K : PySem.W.Frag} {C D : Addr} (self : PySem.W.subIn K (.ref C) (.ref C) = some true) (hc : PySem.W.isClsIn K D = true) (ht : PySem.W.typeIn K (.ref D) = some (.type "type")) (hs : PySem.W.subIn K (.ref C) (.ref D) = some false) :
    PySem.W.kitOne K (.ref C) (.ref D) = some false := by
  have ne : (Value.ref C == Value.ref D) = false := Bool.eq_false_iff.mpr fun q => by
    have e : C = D := Value.ref.inj (beq_iff_eq.mp q)
    rw [← e, self] at hs
    cases hs
  unfold PySem.W.kitOne PySem.W.kitCls
  rw [if_neg (by rw [ne]; decide)]
  show (if ((PySem.W.clsIn K D).isSome && PySem.W.typeIn K (.ref D) == some (.type "type")) = true then _ else _) = _
  rw [if_pos (by rw [Bool.and_eq_true]; exact ⟨hc, by rw [ht]; exact beq_self_eq_true _⟩)]
  exact hs
end Pg

namespace Pg
open PySem L2 Fr0 Tx
section
variable {P : Program} {w : World} {K : PySem.W.Frag} {mg : Str → Option Value} {base : Heap} {CN CT CD c1 c2 c3 c4 c5 c6 c7 c8 : Addr}
def TGcd : DF := fun ds M q _ => match ds with
  | [.int a, .int b] => q (.int (g a b)) M
  | _ => False
theorem scCommonDivisor : FnScope ["one", "other", "great", "small", "rest"] ["one", "other"] (defScope sCommonDivisor) := ⟨rfl, rfl, rfl, by decide +kernel, rfl, by decide +kernel, by decide +kernel⟩
theorem ok_CommonDivisor {f : Addr} {fd : FuncData} (F : Fun K "common_divisor" "common_divisor" sCommonDivisor f fd) (E : Ev K mg CN CT CD c1 c2 c3 c4 c5 c6 c7 c8)  : FnOk P w K mg base (CX1 P w) 1 f fd ["one", "other"] (spD K TGcd) := by
  refine F.okD scCommonDivisor (fun ds M q x h => ?_) (fun cdv A outer s H E' hr => ⟨_, (jss_cons (js_set (i := 2) scCommonDivisor.nd rfl (Or.inl rfl) (j_abs E.n_abs (ja_cons (jv 0) ja_nil)))
      (jss_cons (js_set (i := 3) scCommonDivisor.nd rfl (Or.inl rfl) (j_abs E.n_abs (ja_cons (jv 1) ja_nil)))
      (jss_cons (js_while (jt_ne hr (jv 3) jint) (jss_cons (js_set (i := 4) scCommonDivisor.nd rfl (Or.inl rfl) (j_mod (jv 2) (jv 3)))
      (jss_cons (js_set (i := 2) scCommonDivisor.nd rfl (Or.inl rfl) (jv 3))
      (jss_one (js_set (i := 3) scCommonDivisor.nd rfl (Or.inl rfl) (jv 4))))))
      (jss_one (js_ret (jv 2)))))), fun ds M q x h => ?_⟩)
  · unfold TGcd at h; split at h; · rfl
    · exact h.elim
  · unfold TGcd at h
    split at h
    · rename_i a b
      refine ⟨fun m ρ M' => M' = M ∧ ∃ (x y : Int) (r : Option Dt), ρ = [some (.int a), some (.int b), some (.int x), some (.int y), r] ∧ 0 ≤ x ∧ 0 ≤ y ∧ g x y = g a b ∧ m = y.toNat, ⟨_, rfl, _, _, _, rfl, by split <;> omega, by split <;> omega, g_abs a b, rfl⟩, ?_⟩
      rintro m ρ M' ⟨rfl, x, y, r, rfl, hx, hy, e, rfl⟩
      refine ⟨fun hb => ?_, fun hb => ?_⟩
      · have hy0 : y ≠ 0 := by simpa using hb
        refine ⟨_, fun ρ' M2 h2 => h2, ?_⟩
        refine ⟨by omega, (x % y).toNat, ?_, rfl, y, x % y, _, rfl, hy, Int.emod_nonneg _ hy0, ?_, rfl⟩
        · have := Int.emod_lt_of_pos x (show 0 < y by omega)
          have := Int.emod_nonneg x hy0
          omega
        · rw [← Int.fmod_eq_emod_of_nonneg x hy, g_step (by omega)]; exact e
      · have hy0 : y = 0 := by simpa using hb
        subst hy0
        rw [g_zero hx] at e
        subst e
        exact h
    · exact h.elim
end
end Pg

namespace Pg
open PySem L2 Fr0 Tx
section
variable {P : Program} {w : World} {K : PySem.W.Frag} {mg : Str → Option Value} {base : Heap} {CN CT CD c1 c2 c3 c4 c5 c6 c7 c8 : Addr}
theorem big_of_le {i j : Int} (h : Big j) (l : i.natAbs ≤ j.natAbs) : Big i := Nat.lt_of_le_of_lt l h
def TFrac (CN : Addr) : DF := fun ds M q x => match ds with
  | [.int t, .int b] => Big b ∧ (b = 0 → x CN [] M) ∧ (b ≠ 0 → q (.tup [.int (frac t b).1, .int (frac t b).2]) M)
  | _ => False
theorem scFraction : FnScope ["top", "bottom", "divisor"] ["top", "bottom"] (defScope sFraction) := ⟨rfl, rfl, rfl, by decide +kernel, rfl, by decide +kernel, by decide +kernel⟩
theorem ok_Fraction {f : Addr} {fd : FuncData} (F : Fun K "fraction" "fraction" sFraction f fd) (E : Ev K mg CN CT CD c1 c2 c3 c4 c5 c6 c7 c8) {fCommonDivisor : Addr} {dCommonDivisor : FuncData} (c_CommonDivisor : CalD P w K mg base 1 "common_divisor" ["one", "other"] TGcd fCommonDivisor dCommonDivisor) : FnOk P w K mg base (CX1 P w) 2 f fd ["top", "bottom"] (spD K (TFrac CN)) := by
  refine F.okD scFraction (fun ds M q x h => ?_) (fun cdv A outer s H E' hr => ⟨_, (jss_cons (js_if (jt_eq hr (jv 1) jint) (jss_one (js_raise raises1 PySem.F.excBase_ValueError E.eNoNumber E.mNoNumber (ja_cons jstr ja_nil))) jss_nil)
      (jss_cons (js_set (i := 2) scFraction.nd rfl (Or.inl rfl) (j_fn c_CommonDivisor hr passes1 (ja_cons (jv 0) (ja_cons (jv 1) ja_nil))))
      (jss_cons (js_cut (js_if (jt_lt (jv 1) jint) (jss_one (js_set (i := 2) scFraction.nd rfl (Or.inl rfl) (j_neg (jv 2)))) jss_nil))
      (jss_one (js_ret (j_tup (ja_cons (j_divN (jv 0) (jv 2)) (ja_cons (j_divN (jv 1) (jv 2)) ja_nil)))))))), fun ds M q x h => ?_⟩)
  · unfold TFrac at h; split at h; · rfl
    · exact h.elim
  · unfold TFrac at h
    split at h
    · rename_i t b
      obtain ⟨hB, h0, h1⟩ := h
      refine ⟨fun hb => ?_, fun hb => ?_⟩
      · exact ⟨by decide, h0 (by simpa using hb)⟩
      · have hb0 : b ≠ 0 := by simpa using hb
        refine ⟨fun ρ M' => M' = M ∧ ρ = [some (.int t), some (.int b), some (.int (dv t b))], ⟨fun hn => ?_, fun hn => ?_⟩, ?_⟩
        · have hn' : b < 0 := by simpa using hn
          exact ⟨rfl, by unfold dv; rw [if_pos hn']; rfl⟩
        · have hn' : ¬ b < 0 := by simpa using hn
          exact ⟨rfl, by unfold dv; rw [if_neg hn']; rfl⟩
        · rintro ρ M' ⟨rfl, rfl⟩
          have hd := dv_ne (t := t) hb0
          have hbd : Big (dv t b) := big_of_le hB (dv_natAbs_le hb0)
          exact ⟨⟨hd, hbd⟩, ⟨hd, hbd⟩, (by show 2 ≤ sizeLine; decide), h1 hb0⟩
    · exact h.elim
end
end Pg

namespace Pg
open PySem L2 Fr0 Tx
section
variable {P : Program} {w : World} {K : PySem.W.Frag} {mg : Str → Option Value} {base : Heap} {CN CT CD c1 c2 c3 c4 c5 c6 c7 c8 : Addr}
def TFigs (CT : Addr) : DF := fun ds M q x => match ds with
  | [.str z] => z.length ≤ 1000 ∧ (match figs z.cps.toList with
    | some n => q (.int n) M
    | none => x CT [] M)
  | _ => False
theorem big1000 : (1002 : Nat) ≤ sizeLine := by decide
theorem figL : (Str.ofString "0123456789").cps.toList = [48, 49, 50, 51, 52, 53, 54, 55, 56, 57] := by decide +kernel
theorem zero48 : (Str.ofString "0") = mk [48] := by decide +kernel
theorem mem_fig (c : Nat) : c ∈ (Str.ofString "0123456789").cps.toList ↔ 48 ≤ c ∧ c ≤ 57 := by
  rw [figL]
  simp only [List.mem_cons, List.not_mem_nil, or_false]
  omega
def notFig (d : Dt) : Dt := match d with
  | .str y => .bl (!(!(Builtin.Str.occurrences (Str.ofString "0123456789") y 0 (Str.ofString "0123456789").length 1).isEmpty))
  | _ => .non
theorem notFig_one (c : Nat) : notFig (.str ⟨#[c]⟩) = .bl (!decide (48 ≤ c ∧ c ≤ 57)) := by
  show Dt.bl (!(!(Builtin.Str.occurrences (Str.ofString "0123456789") ⟨#[c]⟩ 0 (Str.ofString "0123456789").length 1).isEmpty)) = _
  rw [in_one, decide_eq_decide.mpr (mem_fig c)]
theorem notFig_all (z : Str) : (signsD z).map notFig = (z.cps.toList.map fun c => !decide (48 ≤ c ∧ c ≤ 57)).map Dt.bl := by
  unfold signsD
  rw [List.map_map, List.map_map]
  exact List.map_congr_left fun c _ => notFig_one c
theorem scReadFigures : FnScope ["text"] ["text"] (defScope sReadFigures) := ⟨rfl, rfl, rfl, by decide +kernel, rfl, by decide +kernel, by decide +kernel⟩
theorem ok_ReadFigures {f : Addr} {fd : FuncData} (F : Fun K "read_figures" "read_figures" sReadFigures f fd) (E : Ev K mg CN CT CD c1 c2 c3 c4 c5 c6 c7 c8)  : FnOk P w K mg base (CX1 P w) 1 f fd ["text"] (spD K (TFigs CT)) := by
  refine F.okD scReadFigures (fun ds M q x h => ?_) (fun cdv A outer s H E' hr => ⟨_, (jss_cons (js_if (JW.jt (jw_or (jt_lt (j_len E.n_len (ja_cons (jv 0) ja_nil)) jint) (jw_or1 (jt_gt (j_len E.n_len (ja_cons (jv 0) ja_nil)) (j_gint E.mMOST_FIGURES))))) (jss_one (js_raise raises1 PySem.F.excBase_ValueError E.eNoText E.mNoText (ja_cons jstr ja_nil))) jss_nil)
      (jss_cons (js_if (jt_val (j_any E.n_any (ja_cons (j_comp (ys := []) (caps := []) ⟨rfl, by decide +kernel, by decide +kernel, rfl, (by show ∀ p : Str × NameKind, p ∈ _ → p.2 = NameKind.free → List.lookup p.1 (defScope sReadFigures).names = some .cell; decide +kernel), by decide +kernel, (by show ∀ q : Str × Nat, q ∈ _ → (["text"] : List Str)[q.2]? = some q.1 ∧ List.lookup q.1 (defScope sReadFigures).names = some .cell ∧ _; decide +kernel), rfl⟩ (ji_seq (jv 0)) (fun C s H fp => (j_notin (jv 0) (j_gstr E.mFIGURES)))) ja_nil))) (jss_one (js_raise raises1 PySem.F.excBase_ValueError E.eNoText E.mNoText (ja_cons jstr ja_nil))) jss_nil)
      (jss_cons (js_if (JW.jt (jw_and (jt_eq hr (j_ix (jv 0) jint) jstr) (jw_and1 (jt_ne hr (jv 0) jstr)))) (jss_one (js_raise raises1 PySem.F.excBase_ValueError E.eNoText E.mNoText (ja_cons jstr ja_nil))) jss_nil)
      (jss_one (js_ret (j_int E.n_int (ja_cons (jv 0) ja_nil))))))), fun ds M q x h => ?_⟩)
  · unfold TFigs at h; split at h; · rfl
    · exact h.elim
  · unfold TFigs at h
    split at h
    · rename_i z
      obtain ⟨hz, h⟩ := h
      have big := big1000
      have hz' : z.length ≤ sizeLine := by omega
      have hlen : z.cps.toList.length = z.length := Array.length_toList
      have bad : ¬ OkF z.cps.toList → x CT [] M := fun hn => by
        have e : figs z.cps.toList = none := if_neg hn
        rw [e] at h
        exact h
      refine ⟨hz', fun h1 => ⟨fun _ => ⟨by decide, bad fun hk => ?_⟩, fun z => (nomatch z)⟩, fun h1 => ⟨hz', fun h2 => ⟨by decide, bad fun hk => ?_⟩, fun h2 => ?_⟩⟩
      · have : (z.length : Int) < 1 := by simpa using h1
        exact hk.1 (List.eq_nil_of_length_eq_zero (by omega))
      · have : (60 : Int) < z.length := by simpa using h2
        have := hk.2.1
        omega
      · have l1 : ¬ (z.length : Int) < 1 := by simpa using h1
        have l2 : ¬ (60 : Int) < z.length := by simpa using h2
        refine ⟨by unfold signsD; rw [List.length_map]; omega, compD_map (f := notFig) _ [] (fun d hd q hq => ?_) ?_⟩
        · obtain ⟨c, _, rfl⟩ := List.mem_map.mp hd
          exact hq
        · rw [List.nil_append, notFig_all]
          refine ⟨_, rfl, (fun k e => nomatch e), (fun k e => nomatch e), fun h3 => ⟨by decide, bad fun hk => ?_⟩, fun h3 => ?_⟩
          · obtain ⟨b, hb, hbt⟩ := List.any_eq_true.mp h3
            obtain ⟨c, hc, rfl⟩ := List.mem_map.mp hb
            have h4 : c < 48 ∨ 57 < c := by simpa using hbt
            have h5 := hk.2.2.1 c hc
            omega
          · have hd : NumText.AllDigits z.cps.toList := fun c hc => by
              have h4 := List.any_eq_false.mp h3 _ (List.mem_map.mpr ⟨c, hc, rfl⟩)
              simpa using h4
            obtain ⟨c0, r, hcr⟩ : ∃ c0 r, z.cps.toList = c0 :: r := by
              cases hq : z.cps.toList with
              | nil => rw [hq] at hlen; simp at hlen; omega
              | cons c0 r => exact ⟨c0, r, rfl⟩
            have fin : (c0 = 48 → z.cps.toList = [48]) → q (.int (NumText.digitsVal z.cps.toList : Nat)) M := fun hh => by
              have hk : OkF z.cps.toList := ⟨by rw [hcr]; simp, by omega, hd, fun e => hh (by rw [hcr] at e; exact Option.some.inj e)⟩
              have e : figs z.cps.toList = some (NumText.digitsVal z.cps.toList) := if_pos hk
              rw [e] at h
              exact h
            have rest : (c0 = 48 → z.cps.toList = [48]) → fInt [.str z] M q := fun hh => fInt_str (by omega) (intText_digits hd (by rw [hcr]; simp) (by omega)) (fin hh)
            refine ⟨hz', ?_⟩
            have hat : atI z.cps.toList 0 = some c0 := by rw [hcr]; exact atI_zero
            rw [hat]
            refine ⟨fun h4 => ⟨fun h5 => ⟨by decide, bad fun hk => ?_⟩, fun h5 => rest fun _ => ?_⟩, fun h4 => ⟨fun z => (nomatch z), fun _ => rest fun e => ?_⟩⟩
            · have e4 : (⟨#[c0]⟩ : Str) = mk [48] := by rw [← zero48]; simpa using h4
              have e5 : z ≠ mk [48] := by rw [← zero48]; simpa using h5
              have : c0 = 48 := by
                have := congrArg (fun y : Str => y.cps.toList) e4
                simpa [mk] using this
              exact e5 (mk_of (hk.2.2.2 (by rw [hcr, this]; rfl)))
            · have e5 : z = mk [48] := by rw [← zero48]; simpa using h5
              rw [e5]; rfl
            · have e4 : (⟨#[c0]⟩ : Str) ≠ mk [48] := by rw [← zero48]; simpa using h4
              exact absurd (by rw [e]; rfl) e4
    · exact h.elim
end
end Pg
namespace Pg
open PySem L2 Fr0 Tx
theorem slice1 {z : Str} {c : Nat} {r : List Nat} (h : z.cps.toList = c :: r) : Txt.slice z (some 1) none = mk r := by
  have e : Txt.slice z (some 1) none = StrLaws.sliceText z (some 1) none := rfl
  rw [e, StrLaws.sliceText_from (by rw [h]; simp; omega), h]
  refine mk_of ?_
  simp
theorem minus45 : (Str.ofString "-") = mk [45] := by decide +kernel
theorem starts_minus (z : Str) : Txt.startswith z (Str.ofString "-") = decide (z.cps.toList.head? = some 45) := by
  rw [minus45]
  unfold Txt.startswith
  rw [StrLaws.subAt_eq]
  have hl : z.cps.toList.length = z.length := Array.length_toList
  have h1 : (mk [45]).length = 1 := rfl
  rw [h1, mk_cps]
  cases h : z.cps.toList with
  | nil => rw [h] at hl; simp at hl; simp [← hl]
  | cons c r =>
    rw [h] at hl
    simp at hl
    have : (0 + 1 ≤ z.length) := by omega
    simp [this]
    rw [Bool.eq_iff_iff]
    simp
section
variable {P : Program} {w : World} {K : PySem.W.Frag} {mg : Str → Option Value} {base : Heap} {CN CT CD c1 c2 c3 c4 c5 c6 c7 c8 : Addr}
def TTop (CT : Addr) : DF := fun ds M q x => match ds with
  | [.str z] => z.length ≤ 1000 ∧ (match tops z.cps.toList with
    | some n => q (.int n) M
    | none => x CT [] M)
  | _ => False
theorem scReadTop : FnScope ["text", "size"] ["text"] (defScope sReadTop) := ⟨rfl, rfl, rfl, by decide +kernel, rfl, by decide +kernel, by decide +kernel⟩
theorem ok_ReadTop {f : Addr} {fd : FuncData} (F : Fun K "read_top" "read_top" sReadTop f fd) (E : Ev K mg CN CT CD c1 c2 c3 c4 c5 c6 c7 c8) {fReadFigures : Addr} {dReadFigures : FuncData} (c_ReadFigures : CalD P w K mg base 1 "read_figures" ["text"] (TFigs CT) fReadFigures dReadFigures) : FnOk P w K mg base (CX1 P w) 2 f fd ["text"] (spD K (TTop CT)) := by
  refine F.okD scReadTop (fun ds M q x h => ?_) (fun cdv A outer s H E' hr => ⟨_, (jss_cons (js_if (jt_not (jt_val (j_m_startswith (jv 0) (ja_cons jstr ja_nil)))) (jss_one (js_ret (j_fn c_ReadFigures hr passes1 (ja_cons (jv 0) ja_nil)))) jss_nil)
      (jss_cons (js_set (i := 1) scReadTop.nd rfl (Or.inl rfl) (j_fn c_ReadFigures hr passes1 (ja_cons (j_slFrom (jv 0) jint) ja_nil)))
      (jss_cons (js_if (jt_eq hr (jv 1) jint) (jss_one (js_raise raises1 PySem.F.excBase_ValueError E.eNoText E.mNoText (ja_cons jstr ja_nil))) jss_nil)
      (jss_one (js_ret (j_neg (jv 1))))))), fun ds M q x h => ?_⟩)
  · unfold TTop at h; split at h; · rfl
    · exact h.elim
  · unfold TTop at h
    split at h
    · rename_i z
      obtain ⟨hz, h⟩ := h
      have big := big1000
      have hz' : z.length ≤ sizeLine := by omega
      refine ⟨⟨z, rfl⟩, fun h1 => ⟨hz, ?_⟩, fun h1 => ?_⟩
      · have h2 : ¬ z.cps.toList.head? = some 45 := by
          rw [starts_minus] at h1
          simpa using h1
        have e : tops z.cps.toList = (figs z.cps.toList).map fun n : Nat => (n : Int) := by
          unfold tops
          split
          · rename_i r er
            rw [er] at h2
            exact absurd rfl h2
          · cases figs z.cps.toList <;> rfl
        rw [e] at h
        cases hf : figs z.cps.toList with
        | none => rw [hf] at h; exact h
        | some n => rw [hf] at h; exact h
      · have h2 : z.cps.toList.head? = some 45 := by
          rw [starts_minus] at h1
          simpa using h1
        obtain ⟨r, hr'⟩ : ∃ r, z.cps.toList = 45 :: r := by
          cases hq : z.cps.toList with
          | nil => rw [hq] at h2; cases h2
          | cons c r => rw [hq] at h2; exact ⟨r, by rw [show c = 45 from Option.some.inj h2]⟩
        have hl : z.cps.toList.length = z.length := Array.length_toList
        rw [hr'] at hl h
        refine ⟨hz', ?_, ?_⟩
        · rw [slice1 hr', mk_length]
          simp at hl
          omega
        rw [slice1 hr', mk_cps]
        have e : tops (45 :: r) = (match figs r with | some n => if n = 0 then none else some (-(n : Int)) | none => none) := rfl
        rw [e] at h
        cases hf : figs r with
        | none => rw [hf] at h; exact h
        | some n =>
          rw [hf] at h
          refine ⟨fun h3 => ⟨by decide, ?_⟩, fun h3 => ?_⟩
          · have h4 : n = 0 := by
              have : (n : Int) = 0 := by simpa using h3
              omega
            simp only [h4] at h
            exact h
          · have h4 : n ≠ 0 := by
              have : ¬ (n : Int) = 0 := by simpa using h3
              omega
            simp only [if_neg h4] at h
            exact h
    · exact h.elim
end
end Pg
namespace Pg
open PySem L2 Fr0 Tx
theorem val_lt : ∀ (cs : List Nat) (acc k : Nat), NumText.AllDigits cs → acc < 10 ^ k → cs.foldl (fun acc c => acc * 10 + (c - 48)) acc < 10 ^ (k + cs.length)
  | [], acc, k, _, h => by simpa using h
  | c :: cs, acc, k, hd, h => by
    have hc := hd.head
    have := val_lt cs (acc * 10 + (c - 48)) (k + 1) hd.tail (by rw [Nat.pow_succ]; omega)
    rw [List.foldl_cons, List.length_cons]
    rw [show k + (cs.length + 1) = k + 1 + cs.length by omega]
    exact this
theorem figs_lt {cs : List Nat} {n : Nat} (h : figs cs = some n) : n < 10 ^ 60 := by
  unfold figs at h
  split at h
  · rename_i hk
    cases h
    have := val_lt cs 0 0 hk.2.2.1 (by decide)
    refine Nat.lt_of_lt_of_le this (Nat.pow_le_pow_right (by decide) ?_)
    have := hk.2.1
    omega
  · cases h
theorem slashA : (Str.ofString "/") = ⟨#[47]⟩ := by decide +kernel
theorem big60 {i : Int} (h : i.natAbs < 10 ^ 60) : Big i := Nat.lt_trans h (Nat.lt_of_lt_of_le (show 10 ^ 60 < 2 ^ 200 by decide +kernel) (Nat.pow_le_pow_right (by decide) (by decide)))
section
variable {P : Program} {w : World} {K : PySem.W.Frag} {mg : Str → Option Value} {base : Heap} {CN CT CD c1 c2 c3 c4 c5 c6 c7 c8 : Addr}
def TRead (CT : Addr) : DF := fun ds M q x => match ds with
  | [.str z] => z.length ≤ 1000 ∧ (match rd z with
    | some (t, b) => q (.tup [.int t, .int b]) M
    | none => x CT [] M)
  | _ => False
theorem scReadFraction : FnScope ["text", "pieces", "top", "bottom", "told"] ["text"] (defScope sReadFraction) := ⟨rfl, rfl, rfl, by decide +kernel, rfl, by decide +kernel, by decide +kernel⟩
theorem ok_ReadFraction {f : Addr} {fd : FuncData} (F : Fun K "read_fraction" "read_fraction" sReadFraction f fd) (E : Ev K mg CN CT CD c1 c2 c3 c4 c5 c6 c7 c8) {fReadTop : Addr} {dReadTop : FuncData} (c_ReadTop : CalD P w K mg base 2 "read_top" ["text"] (TTop CT) fReadTop dReadTop) {fFraction : Addr} {dFraction : FuncData} (c_Fraction : CalD P w K mg base 2 "fraction" ["top", "bottom"] (TFrac CN) fFraction dFraction) {fReadFigures : Addr} {dReadFigures : FuncData} (c_ReadFigures : CalD P w K mg base 1 "read_figures" ["text"] (TFigs CT) fReadFigures dReadFigures) : FnOk P w K mg base (CX1 P w) 3 f fd ["text"] (spD K (TRead CT)) := by
  refine F.okD scReadFraction (fun ds M q x h => ?_) (fun cdv A outer s H E' hr => ⟨_, (jss_cons (js_set (i := 1) scReadFraction.nd rfl (Or.inl rfl) (j_m_split (jv 0) (ja_cons jstr ja_nil)))
      (jss_cons (js_if (jt_gt (j_len E.n_len (ja_cons (jv 1) ja_nil)) jint) (jss_one (js_raise raises1 PySem.F.excBase_ValueError E.eNoText E.mNoText (ja_cons jstr ja_nil))) jss_nil)
      (jss_cons (js_set (i := 2) scReadFraction.nd rfl (Or.inl rfl) (j_fn c_ReadTop hr passes1 (ja_cons (j_ix (jv 1) jint) ja_nil)))
      (jss_cons (js_if (jt_eq hr (j_len E.n_len (ja_cons (jv 1) ja_nil)) jint) (jss_one (js_ret (j_fn c_Fraction hr passes1 (ja_cons (jv 2) (ja_cons jint ja_nil))))) jss_nil)
      (jss_cons (js_set (i := 3) scReadFraction.nd rfl (Or.inl rfl) (j_fn c_ReadFigures hr passes1 (ja_cons (j_ix (jv 1) jint) ja_nil)))
      (jss_cons (js_if (jt_lt (jv 3) jint) (jss_one (js_raise raises1 PySem.F.excBase_ValueError E.eNoText E.mNoText (ja_cons jstr ja_nil))) jss_nil)
      (jss_cons (js_set (i := 4) scReadFraction.nd rfl (Or.inl rfl) (j_fn c_Fraction hr passes1 (ja_cons (jv 2) (ja_cons (jv 3) ja_nil))))
      (jss_cons (js_if (jt_ne hr (j_ix (jv 4) jint) (jv 3)) (jss_one (js_raise raises1 PySem.F.excBase_ValueError E.eNoText E.mNoText (ja_cons jstr ja_nil))) jss_nil)
      (jss_one (js_ret (jv 4))))))))))), fun ds M q x h => ?_⟩)
  · unfold TRead at h; split at h; · rfl
    · exact h.elim
  · unfold TRead at h
    split at h
    · rename_i z
      obtain ⟨hz, h⟩ := h
      have big := big1000
      refine ⟨⟨z, rfl⟩, ⟨by decide, by omega⟩, ?_⟩
      have hp : ∀ a ∈ Txt.split z (Str.ofString "/"), a.length ≤ 1000 := fun a ha => Nat.le_trans (PyProof.Rows.part_short ha) hz
      have hne := split_ne z (Str.ofString "/")
      unfold rd at h
      rw [← slashA] at h
      generalize Txt.split z (Str.ofString "/") = ps at h hp hne ⊢
      match ps, h, hp, hne with
      | [], _, _, hne => exact absurd rfl hne
      | [a], h, hp, _ =>
        refine ⟨fun h1 => absurd h1 (by simp), fun _ => ⟨hp a (by simp), ?_⟩⟩
        cases ht : tops a.cps.toList with
        | none => simp only [ht] at h; exact h
        | some t =>
          simp only [ht] at h
          refine ⟨fun _ => ⟨by unfold Big; decide, (fun z => absurd z (by decide)), fun _ => h⟩, fun h1 => absurd h1 (by simp)⟩
      | [a, b], h, hp, _ =>
        refine ⟨fun h1 => absurd h1 (by simp), fun _ => ⟨hp a (by simp), ?_⟩⟩
        cases ht : tops a.cps.toList with
        | none => simp only [ht] at h; exact h
        | some t =>
          simp only [ht] at h
          refine ⟨fun h1 => absurd h1 (by simp), fun _ => ⟨hp b (by simp), ?_⟩⟩
          cases hf : figs b.cps.toList with
          | none => simp only [hf] at h; exact h
          | some n =>
            simp only [hf] at h
            have hn := figs_lt hf
            refine ⟨fun h2 => ⟨by decide, ?_⟩, fun h2 => ⟨big60 (by omega), fun e => ?_, fun _ => ⟨fun h3 => ⟨by decide, ?_⟩, fun h3 => ?_⟩⟩⟩
            · have : (n : Int) < 2 := by simpa using h2
              rw [if_pos (by omega)] at h
              exact h
            · have : ¬ (n : Int) < 2 := by simpa using h2
              omega
            · have h4 : ¬ (n : Int) < 2 := by simpa using h2
              have h5 : ¬ (frac t n).2 = n := by simpa using h3
              rw [if_neg (by omega), if_neg h5] at h
              exact h
            · have h4 : ¬ (n : Int) < 2 := by simpa using h2
              have h5 : (frac t n).2 = n := by simpa using h3
              rw [if_neg (by omega), if_pos h5] at h
              exact h
      | a :: b :: c :: r, h, _, _ =>
        refine ⟨fun _ => ⟨by decide, h⟩, fun h1 => absurd h1 ?_⟩
        simp
        omega
    · exact h.elim
end
end Pg

namespace Pg
open PySem L2 Fr0 Tx
section
variable {P : Program} {w : World} {K : PySem.W.Frag} {mg : Str → Option Value} {base : Heap} {CN CT CD c1 c2 c3 c4 c5 c6 c7 c8 : Addr}
def nth (ns : List Int) (k : Int) : Int := ns.getD k.toNat 0
def TNth : DF := fun ds M q _ => match ds with
  | [.scr ns, .int k] => 0 ≤ k ∧ q (.int (nth ns k)) M
  | _ => False
theorem scLawNth : FnScope ["_law_script", "_law_k"] ["_law_script", "_law_k"] (defScope sLawNth) := ⟨rfl, rfl, rfl, by decide +kernel, rfl, by decide +kernel, by decide +kernel⟩
theorem ok_LawNth {f : Addr} {fd : FuncData} (F : Fun K "_law_nth" "_law_nth" sLawNth f fd) (E : Ev K mg CN CT CD c1 c2 c3 c4 c5 c6 c7 c8)  : FnOk P w K mg base (CX1 P w) 1 f fd ["_law_script", "_law_k"] (spD K TNth) := by
  refine F.okD scLawNth (fun ds M q x h => ?_) (fun cdv A outer s H E' hr => ⟨_, (jss_one (js_ret (je_if (jt_lt (jv 1) (j_len E.n_len (ja_cons (jv 0) ja_nil))) (j_ix (jv 0) (jv 1)) jint))), fun ds M q x h => ?_⟩)
  · unfold TNth at h; split at h; · rfl
    · exact h.elim
  · unfold TNth at h
    split at h
    · rename_i ns k
      obtain ⟨hk, h⟩ := h
      refine ⟨fun h1 => ?_, fun h1 => ?_⟩
      · have h2 : k < (ns.length : Int) := by simpa using h1
        have hat : atI (ns.map Dt.int) k = some (.int (nth ns k)) := by
          have e : (ns.map Dt.int)[k.toNat]? = some (.int (nth ns k)) := by
            rw [List.getElem?_map, List.getElem?_eq_getElem (show k.toNat < ns.length by omega)]
            unfold nth
            rw [List.getD_eq_getElem?_getD, List.getElem?_eq_getElem (show k.toNat < ns.length by omega)]
            rfl
          have := atI_nat e
          rwa [show ((k.toNat : Nat) : Int) = k by omega] at this
        show (match atI (ns.map Dt.int) k with | some y => q y M | none => False)
        rw [hat]
        exact h
      · have h2 : ¬ k < (ns.length : Int) := by simpa using h1
        have e : nth ns k = 0 := by
          unfold nth
          rw [List.getD_eq_getElem?_getD, List.getElem?_eq_none (by omega)]
          rfl
        rw [e] at h
        exact h
    · exact h.elim
end
end Pg

namespace Pg
open PySem L2 Fr0 Tx
section
variable {P : Program} {w : World} {K : PySem.W.Frag} {mg : Str → Option Value} {base : Heap} {CN CT CD c1 c2 c3 c4 c5 c6 c7 c8 : Addr}
theorem scLawGcd : FnScope ["_law_one", "_law_other", "_law_found", "_law_rest"] ["_law_one", "_law_other"] (defScope sLawGcd) := ⟨rfl, rfl, rfl, by decide +kernel, rfl, by decide +kernel, by decide +kernel⟩
theorem ok_LawGcd {f : Addr} {fd : FuncData} (F : Fun K "_law_gcd" "_law_gcd" sLawGcd f fd) (E : Ev K mg CN CT CD c1 c2 c3 c4 c5 c6 c7 c8)  : FnOk P w K mg base (CX1 P w) 1 f fd ["_law_one", "_law_other"] (spD K TGcd) := by
  refine F.okD scLawGcd (fun ds M q x h => ?_) (fun cdv A outer s H E' hr => ⟨_, (jss_cons (js_set (i := 2) scLawGcd.nd rfl (Or.inl rfl) (j_abs E.n_abs (ja_cons (jv 0) ja_nil)))
      (jss_cons (js_set (i := 3) scLawGcd.nd rfl (Or.inl rfl) (j_abs E.n_abs (ja_cons (jv 1) ja_nil)))
      (jss_cons (js_while (jt_gt (jv 3) jint) (jss_one (js_par (i := 2) (j := 3) scLawGcd.nd rfl rfl (ja_cons (jv 3) (ja_cons (j_mod (jv 2) (jv 3)) ja_nil)))))
      (jss_one (js_ret (jv 2)))))), fun ds M q x h => ?_⟩)
  · unfold TGcd at h; split at h; · rfl
    · exact h.elim
  · unfold TGcd at h
    split at h
    · rename_i a b
      refine ⟨fun m ρ M' => M' = M ∧ ∃ (x y : Int), ρ = [some (.int a), some (.int b), some (.int x), some (.int y)] ∧ 0 ≤ x ∧ 0 ≤ y ∧ g x y = g a b ∧ m = y.toNat, ⟨_, rfl, _, _, rfl, by split <;> omega, by split <;> omega, g_abs a b, rfl⟩, ?_⟩
      rintro m ρ M' ⟨rfl, x, y, rfl, hx, hy, e, rfl⟩
      refine ⟨fun hb => ?_, fun hb => ?_⟩
      · have hy0 : 0 < y := by simpa using hb
        refine ⟨_, fun ρ' M2 h2 => h2, ?_⟩
        refine ⟨by omega, (x % y).toNat, ?_, rfl, y, x % y, rfl, hy, Int.emod_nonneg _ (by omega), ?_, rfl⟩
        · have := Int.emod_lt_of_pos x (show 0 < y by omega)
          have := Int.emod_nonneg x (show y ≠ 0 by omega)
          omega
        · rw [← Int.fmod_eq_emod_of_nonneg x hy, g_step (by omega)]; exact e
      · have hy0 : y = 0 := by
          have : ¬ 0 < y := by simpa using hb
          omega
        subst hy0
        rw [g_zero hx] at e
        subst e
        exact h
    · exact h.elim
end
end Pg

namespace Pg
open PySem L2 Fr0 Tx
section
variable {P : Program} {w : World} {K : PySem.W.Frag} {mg : Str → Option Value} {base : Heap} {CN CT CD c1 c2 c3 c4 c5 c6 c7 c8 : Addr}
def TWhole : DF := fun ds M q _ => match ds with
  | [.int _] => q (.bl true) M
  | _ => False
theorem scLawWhole : FnScope ["_law_found"] ["_law_found"] (defScope sLawWhole) := ⟨rfl, rfl, rfl, by decide +kernel, rfl, by decide +kernel, by decide +kernel⟩
theorem ok_LawWhole {f : Addr} {fd : FuncData} (F : Fun K "_law_whole" "_law_whole" sLawWhole f fd) (E : Ev K mg CN CT CD c1 c2 c3 c4 c5 c6 c7 c8)  : FnOk P w K mg base (CX1 P w) 1 f fd ["_law_found"] (spD K TWhole) := by
  refine F.okD scLawWhole (fun ds M q x h => ?_) (fun cdv A outer s H E' hr => ⟨_, (jss_one (js_ret (je_and (j_isi K E.n_isinstance (ja_cons (jv 0) (ja_cons (j_ty E.n_int boot_int') ja_nil))) (je_one (je_not (j_isi K E.n_isinstance (ja_cons (jv 0) (ja_cons (j_ty E.n_bool boot_bool') ja_nil)))))))), fun ds M q x h => ?_⟩)
  · unfold TWhole at h; split at h; · rfl
    · exact h.elim
  · unfold TWhole at h
    split at h
    · dsimp only [sSeq, sNext, sIf, sRet, sSet, sDrop, sRaise, dCall, dFn, dOp, dUn, dVar, dC, aNil, aCons, dTup, dLst, tstD, andT, orT, notT, dAnd, dOr, dNot, dIf, dSM, startD, List.map_cons, List.map_nil, List.length_cons, List.length_nil, List.cons_append, List.nil_append, List.replicate, List.getElem?_cons_zero, List.getElem?_cons_succ, List.set_cons_zero, List.set_cons_succ, Nat.reduceSub, Nat.reduceAdd, Nat.zero_add]
      refine fIsi_of rfl rfl k_self ⟨fun _ => ?_, fun z => (nomatch z)⟩
      exact fIsi_of rfl rfl E.ib h
    · exact h.elim
end
end Pg

namespace Pg
open PySem L2 Fr0 Tx
section
variable {P : Program} {w : World} {K : PySem.W.Frag} {mg : Str → Option Value} {base : Heap} {CN CT CD c1 c2 c3 c4 c5 c6 c7 c8 : Addr}
theorem bgL {n : Int} (h : n.natAbs < 2 ^ 210) : Big n := Nat.lt_of_lt_of_le h (Nat.pow_le_pow_right (by decide) (by decide))
theorem e210 : (2 : Nat) ^ 210 = 1645504557321206042154969182557350504982735865633579863348609024 := by decide +kernel
theorem e10_60 : (10 : Int) ^ (60 : Int).toNat = 1000000000000000000000000000000000000000000000000000000000000 := by decide +kernel
theorem n10_60 : (10 : Nat) ^ 60 = 1000000000000000000000000000000000000000000000000000000000000 := by decide +kernel
theorem cp60 : CPow 10 60 := ⟨by decide, by decide, by decide⟩
end
end Pg

namespace Pg
open PySem L2 Fr0 Tx
section
variable {P : Program} {w : World} {K : PySem.W.Frag} {mg : Str → Option Value} {base : Heap} {CN CT CD c1 c2 c3 c4 c5 c6 c7 c8 : Addr}
theorem rng_mem {lo : Int} {n : Nat} {d : Dt} (h : d ∈ rngD lo n) : ∃ k : Nat, k < n ∧ d = .int (lo + (k : Int)) := by
  obtain ⟨k, hk, e⟩ := List.mem_map.mp h
  exact ⟨k, List.mem_range.mp hk, e.symm⟩
theorem eqVs_self (p b : Int) : eqVs [.int p, .int b] [.int p, .int b] = true := by
  show ((p == p) && ((b == b) && true)) = true
  simp
end
end Pg

namespace Pg
open PySem L2 Fr0 Tx
section
variable {P : Program} {w : World} {K : PySem.W.Frag} {mg : Str → Option Value} {base : Heap} {CN CT CD c1 c2 c3 c4 c5 c6 c7 c8 : Addr}
def TAre : DF := fun ds M q _ => match ds with
  | [.str z] => z.length ≤ 1000 ∧ q (.bl (decide (OkF z.cps.toList))) M
  | _ => False
def isFig (d : Dt) : Dt := match d with
  | .str y => .bl (!(Builtin.Str.occurrences (Str.ofString "0123456789") y 0 (Str.ofString "0123456789").length 1).isEmpty)
  | _ => .non
theorem isFig_one (c : Nat) : isFig (.str ⟨#[c]⟩) = .bl (decide (48 ≤ c ∧ c ≤ 57)) := by
  show Dt.bl (!(Builtin.Str.occurrences (Str.ofString "0123456789") ⟨#[c]⟩ 0 (Str.ofString "0123456789").length 1).isEmpty) = _
  rw [in_one, decide_eq_decide.mpr (mem_fig c)]
theorem isFig_all (z : Str) : (signsD z).map isFig = (z.cps.toList.map fun c => decide (48 ≤ c ∧ c ≤ 57)).map Dt.bl := by
  unfold signsD
  rw [List.map_map, List.map_map]
  exact List.map_congr_left fun c _ => isFig_one c
theorem emptyS : (Str.ofString "") = mk [] := by decide +kernel
theorem scLawAreFigures : FnScope ["_law_text_here"] ["_law_text_here"] (defScope sLawAreFigures) := ⟨rfl, rfl, rfl, by decide +kernel, rfl, by decide +kernel, by decide +kernel⟩
theorem ok_LawAreFigures {f : Addr} {fd : FuncData} (F : Fun K "_law_are_figures" "_law_are_figures" sLawAreFigures f fd) (E : Ev K mg CN CT CD c1 c2 c3 c4 c5 c6 c7 c8)  : FnOk P w K mg base (CX1 P w) 1 f fd ["_law_text_here"] (spD K TAre) := by
  refine F.okD scLawAreFigures (fun ds M q x h => ?_) (fun cdv A outer s H E' hr => ⟨_, (jss_cons (js_if (JW.jt (jw_or (jt_eq hr (jv 0) jstr) (jw_or (jt_gt (j_len E.n_len (ja_cons (jv 0) ja_nil)) jint) (jw_or1 (JW.jt (jw_and (jt_eq hr (j_ix (jv 0) jint) jstr) (jw_and1 (jt_ne hr (jv 0) jstr)))))))) (jss_one (js_ret jbl)) jss_nil)
      (jss_one (js_ret (j_all E.n_all (ja_cons (j_comp (ys := []) (caps := []) ⟨rfl, by decide +kernel, by decide +kernel, rfl, (by show ∀ p : Str × NameKind, p ∈ _ → p.2 = NameKind.free → List.lookup p.1 (defScope sLawAreFigures).names = some .cell; decide +kernel), by decide +kernel, (by show ∀ q : Str × Nat, q ∈ _ → (["_law_text_here"] : List Str)[q.2]? = some q.1 ∧ List.lookup q.1 (defScope sLawAreFigures).names = some .cell ∧ _; decide +kernel), rfl⟩ (ji_seq (jv 0)) (fun C s H fp => (j_in (jv 0) jstr))) ja_nil))))), fun ds M q x h => ?_⟩)
  · unfold TAre at h; split at h; · rfl
    · exact h.elim
  · unfold TAre at h
    split at h
    · rename_i z
      obtain ⟨hz, h⟩ := h
      have big := big1000
      have hz' : z.length ≤ sizeLine := by omega
      have hlen : z.cps.toList.length = z.length := Array.length_toList
      have bad : ¬ OkF z.cps.toList → q (.bl false) M := fun hn => by
        rw [decide_eq_false hn] at h
        exact h
      have rest : z.cps.toList ≠ [] → z.length ≤ 60 → (z.cps.toList.head? = some 48 → z.cps.toList = [48]) → compD (dOp fInS (dVar 0) (dC (.str (Str.ofString "0123456789")))) (capD [] (startD ["_law_text_here"] [.str z])) (signsD z) [] M (fun ys M2 => fAll [.lst ys] M2 q) := fun h1 h2 h3 => by
        refine compD_map (f := isFig) _ [] (fun d hd q hq => ?_) ?_
        · obtain ⟨c, _, rfl⟩ := List.mem_map.mp hd
          exact hq
        · rw [List.nil_append, isFig_all]
          refine ⟨_, rfl, ?_⟩
          have e : ((z.cps.toList.map fun c => decide (48 ≤ c ∧ c ≤ 57)).all id) = decide (OkF z.cps.toList) := by
            rw [Bool.eq_iff_iff, List.all_eq_true, decide_eq_true_iff]
            constructor
            · intro ha
              refine ⟨h1, by omega, fun c hc => ?_, h3⟩
              have := ha _ (List.mem_map.mpr ⟨c, hc, rfl⟩)
              simpa using this
            · intro hk b hb
              obtain ⟨c, hc, rfl⟩ := List.mem_map.mp hb
              exact decide_eq_true (hk.2.2.1 c hc)
          rw [e]
          exact h
      have hsz : (signsD z).length ≤ sizeLine := by unfold signsD; rw [List.length_map]; omega
      refine ⟨fun h1 => ⟨fun _ => bad fun hk => ?_, fun z => (nomatch z)⟩, fun h1 => ⟨hz', fun h2 => ⟨fun _ => bad fun hk => ?_, fun z => (nomatch z)⟩, fun h2 => ?_⟩⟩
      · have e : z = mk [] := by rw [← emptyS]; simpa using h1
        exact hk.1 (by rw [e]; rfl)
      · have : (60 : Int) < z.length := by simpa using h2
        have := hk.2.1
        omega
      · have l1 : z.cps.toList ≠ [] := fun e => by
          have e1 : z ≠ Str.ofString "" := by simpa using h1
          exact e1 (by rw [emptyS]; exact mk_of e)
        have l2 : ¬ (60 : Int) < z.length := by simpa using h2
        obtain ⟨c0, r, hcr⟩ : ∃ c0 r, z.cps.toList = c0 :: r := by
          cases hq : z.cps.toList with
          | nil => exact absurd hq l1
          | cons c0 r => exact ⟨c0, r, rfl⟩
        have hat : atI z.cps.toList 0 = some c0 := by rw [hcr]; exact atI_zero
        refine ⟨hz', ?_⟩
        rw [hat]
        refine ⟨fun h4 => ⟨fun h5 => bad fun hk => ?_, fun h5 => ⟨hsz, rest l1 (by omega) fun _ => ?_⟩⟩, fun h4 => ⟨fun z => (nomatch z), fun _ => ⟨hsz, rest l1 (by omega) fun e => ?_⟩⟩⟩
        · have e4 : (⟨#[c0]⟩ : Str) = mk [48] := by rw [← zero48]; simpa using h4
          have e5 : z ≠ mk [48] := by rw [← zero48]; simpa using h5
          have : c0 = 48 := by
            have := congrArg (fun y : Str => y.cps.toList) e4
            simpa [mk] using this
          exact e5 (mk_of (hk.2.2.2 (by rw [hcr, this]; rfl)))
        · have e5 : z = mk [48] := by rw [← zero48]; simpa using h5
          rw [e5]; rfl
        · have e4 : (⟨#[c0]⟩ : Str) ≠ mk [48] := by rw [← zero48]; simpa using h4
          have : c0 = 48 := by rw [hcr] at e; exact Option.some.inj e
          exact absurd (by rw [this]; rfl) e4
    · exact h.elim
end
end Pg

namespace Pg
open PySem L2 Fr0 Tx
theorem part_all (z : Str) : ∃ hd st tl ob, Txt.partition z (Str.ofString "/") = (mk hd, st, tl) ∧ hd.length ≤ z.length ∧ rd z = rdH hd ob ∧ ((ob = none ∧ st = mk []) ∨ ∃ b, ob = some b ∧ st = mk [47] ∧ tl = mk b ∧ b.length ≤ z.length) := by
  rw [slashA]
  have hlen : z.cps.toList.length = z.length := Array.length_toList
  rcases part_one z with ⟨hn, hp⟩ | ⟨a, b, e, ha, hp⟩
  · exact ⟨z.cps.toList, Str.empty, Str.empty, none, by rw [hp, ← mk_of rfl], by omega, rd_no hn, .inl ⟨rfl, rfl⟩⟩
  · rw [e] at hlen
    simp only [List.length_append, List.length_cons] at hlen
    exact ⟨a, ⟨#[47]⟩, mk b, some b, hp, by omega, rd_at e ha, .inr ⟨b, rfl, rfl, rfl, by omega⟩⟩
theorem m0 : (Str.ofString "-0") = mk [45, 48] := by decide +kernel
theorem mk_inj {a b : List Nat} (h : mk a = mk b) : a = b := congrArg (fun y : Str => y.cps.toList) h
section
variable {P : Program} {w : World} {K : PySem.W.Frag} {mg : Str → Option Value} {base : Heap} {CN CT CD c1 c2 c3 c4 c5 c6 c7 c8 : Addr}
def TDue : DF := fun ds M q _ => match ds with
  | [.str z] => z.length ≤ 1000 ∧ (match rd z with
    | some (t, b) => q (.tup [.int t, .int b]) M
    | none => q .non M)
  | _ => False
theorem scLawDue : FnScope ["_law_text_here", "_law_head", "_law_stroke", "_law_tail", "_law_plain"] ["_law_text_here"] (defScope sLawDue) := ⟨rfl, rfl, rfl, by decide +kernel, rfl, by decide +kernel, by decide +kernel⟩
theorem ok_LawDue {f : Addr} {fd : FuncData} (F : Fun K "_law_due" "_law_due" sLawDue f fd) (E : Ev K mg CN CT CD c1 c2 c3 c4 c5 c6 c7 c8) {fLawAreFigures : Addr} {dLawAreFigures : FuncData} (c_LawAreFigures : CalD P w K mg base 1 "_law_are_figures" ["_law_text_here"] TAre fLawAreFigures dLawAreFigures) {fLawGcd : Addr} {dLawGcd : FuncData} (c_LawGcd : CalD P w K mg base 1 "_law_gcd" ["_law_one", "_law_other"] TGcd fLawGcd dLawGcd) : FnOk P w K mg base (CX1 P w) 2 f fd ["_law_text_here"] (spD K TDue) := by
  refine F.okD scLawDue (fun ds M q x h => ?_) (fun cdv A outer s H E' hr => ⟨_, (jss_cons (js_unp3 (j_m_partition (jv 0) (ja_cons jstr ja_nil)) (pg_tup rfl (pgs_cons (pg_name (i := 1) scLawDue.nd rfl (Or.inl rfl)) (pgs_cons (pg_name (i := 2) scLawDue.nd rfl (Or.inl rfl)) (pgs_cons (pg_name (i := 3) scLawDue.nd rfl (Or.inl rfl)) pgs_nil)))))
      (jss_cons (js_set (i := 4) scLawDue.nd rfl (Or.inl rfl) (jv 1))
      (jss_cons (js_cut (js_if (jt_eq hr (j_slTo (jv 1) jint) jstr) (jss_one (js_set (i := 4) scLawDue.nd rfl (Or.inl rfl) (j_slFrom (jv 1) jint))) jss_nil))
      (jss_cons (js_if (JW.jt (jw_or (jt_not (jt_val (j_fn c_LawAreFigures hr passes1 (ja_cons (jv 4) ja_nil)))) (jw_or1 (jt_eq hr (jv 1) jstr)))) (jss_one (js_ret jnon)) jss_nil)
      (jss_cons (js_if (jt_eq hr (jv 2) jstr) (jss_one (js_ret (j_tup (ja_cons (j_int E.n_int (ja_cons (jv 1) ja_nil)) (ja_cons jint ja_nil))))) jss_nil)
      (jss_cons (js_if (JW.jt (jw_or (jt_not (jt_val (j_fn c_LawAreFigures hr passes1 (ja_cons (jv 3) ja_nil)))) (jw_or (jt_lt (j_int E.n_int (ja_cons (jv 3) ja_nil)) jint) (jw_or1 (jt_ne hr (j_fn c_LawGcd hr passes1 (ja_cons (j_int E.n_int (ja_cons (jv 1) ja_nil)) (ja_cons (j_int E.n_int (ja_cons (jv 3) ja_nil)) ja_nil))) jint))))) (jss_one (js_ret jnon)) jss_nil)
      (jss_one (js_ret (j_tup (ja_cons (j_int E.n_int (ja_cons (jv 1) ja_nil)) (ja_cons (j_int E.n_int (ja_cons (jv 3) ja_nil)) ja_nil))))))))))), fun ds M q x h => ?_⟩)
  · unfold TDue at h; split at h; · rfl
    · exact h.elim
  · unfold TDue at h
    split at h
    · rename_i z
      obtain ⟨hz, h⟩ := h
      have big := big1000
      have hz' : z.length ≤ sizeLine := by omega
      refine ⟨⟨z, rfl⟩, ⟨by decide, hz'⟩, ?_⟩
      obtain ⟨hd, st, tl, ob, hp, hl, hrd, hob⟩ := part_all z
      rw [hp]
      rw [hrd] at h
      have lhd : (mk hd).length ≤ sizeLine := by rw [mk_length]; omega
      refine ⟨fun ρ M' => M' = M ∧ ρ = [some (.str z), some (.str (mk hd)), some (.str st), some (.str tl), some (.str (mk (pl hd)))], ⟨lhd, fun h1 => ⟨lhd, rfl, ?_⟩, fun h1 => ⟨rfl, ?_⟩⟩, ?_⟩
      · have e1 : mk (hd.take 1) = mk [45] := by rw [← slice_to1, ← minus45]; simpa using h1
        obtain ⟨r, rfl⟩ : ∃ r, hd = 45 :: r := by
          cases hd with
          | nil => exact absurd (mk_inj e1) (by simp)
          | cons c r =>
            have := mk_inj e1
            simp at this
            exact ⟨r, by rw [this]⟩
        rw [slice1 (z := mk (45 :: r)) rfl]
        rfl
      · have e1 : ¬ mk (hd.take 1) = mk [45] := by rw [← slice_to1, ← minus45]; simpa using h1
        have e2 : pl hd = hd := by
          unfold pl
          split
          · exact absurd rfl e1
          · rfl
        rw [e2]
        rfl
      · rintro ρ M' ⟨rfl, rfl⟩
        have lpl : (pl hd).length ≤ hd.length := by
          unfold pl
          split
          · simp
          · exact Nat.le_refl _
        refine ⟨by rw [mk_length]; omega, fun h1 => ⟨fun _ => ?_, fun z => (nomatch z)⟩, fun h1 => ⟨fun h2 => ?_, fun h2 => ?_⟩⟩
        · have e1 : ¬ OkF (pl hd) := by
            have h1' : (!decide (OkF (pl hd))) = true := h1
            simpa using h1'
          have e2 : rdH hd ob = none := by unfold rdH; rw [tops_bad (.inl e1)]
          rw [e2] at h
          exact h
        · have e1 : hd = [45, 48] := mk_inj (by rw [← m0]; simpa using h2)
          have e2 : rdH hd ob = none := by unfold rdH; rw [tops_bad (.inr e1)]
          rw [e2] at h
          exact h
        · have e1 : OkF (pl hd) := by
            have h1' : (!decide (OkF (pl hd))) = false := h1
            simpa using h1'
          have e2 : hd ≠ [45, 48] := fun e => by
            have : ¬ mk hd = mk [45, 48] := by rw [← m0]; simpa using h2
            exact this (by rw [e])
          obtain ⟨t, ht, hint⟩ := tops_good e1 e2
          have l2 : hd.length ≤ 61 := by
            have := e1.2.1
            unfold pl at this
            split at this
            · simp; omega
            · omega
          have hi : (mk hd).length ≤ 640 := by rw [mk_length]; omega
          rcases hob with ⟨rfl, rfl⟩ | ⟨b, rfl, rfl, rfl, hbl⟩
          · have e3 : rdH hd none = some (t, 1) := by unfold rdH; rw [ht]
            rw [e3] at h
            refine ⟨fun _ => ⟨hi, ?_⟩, fun h3 => absurd h3 (by rw [emptyS]; simp)⟩
            rw [hint]
            exact ⟨(by show 2 ≤ sizeLine; decide), h⟩
          · have nz : ¬ (mk [47] = Str.ofString "") := by decide +kernel
            refine ⟨fun h3 => absurd (of_decide_eq_true h3) nz, fun _ => ⟨by rw [mk_length]; omega, fun h4 => ⟨fun _ => ?_, fun z => (nomatch z)⟩, fun h4 => ?_⟩⟩
            · have e4 : ¬ OkF b := by
                have h4' : (!decide (OkF b)) = true := h4
                simpa using h4'
              have e5 : rdH hd (some b) = none := by unfold rdH; rw [ht]; simp only [show figs b = none from if_neg e4]
              rw [e5] at h
              exact h
            · have e4 : OkF b := by
                have h4' : (!decide (OkF b)) = false := h4
                simpa using h4'
              have hf : figs b = some (NumText.digitsVal b) := if_pos e4
              have hbi : (mk b).length ≤ 640 := by rw [mk_length]; have := e4.2.1; omega
              have hint2 : intText? (mk b) = some ((NumText.digitsVal b : Nat) : Int) := intText_digits (x := mk b) e4.2.2.1 e4.1 (by rw [mk_length]; have := e4.2.1; omega)
              have e5 : rdH hd (some b) = if NumText.digitsVal b < 2 then none else if g t (NumText.digitsVal b) = 1 then some (t, ((NumText.digitsVal b : Nat) : Int)) else none := by unfold rdH; rw [ht]; simp only [hf]
              rw [e5] at h
              refine ⟨hbi, ?_⟩
              rw [hint2]
              refine ⟨fun h5 => ⟨fun _ => ?_, fun z => (nomatch z)⟩, fun h5 => ⟨hi, ?_⟩⟩
              · have : ((NumText.digitsVal b : Nat) : Int) < 2 := by simpa using h5
                rw [if_pos (by omega)] at h
                exact h
              · have h6 : ¬ ((NumText.digitsVal b : Nat) : Int) < 2 := by simpa using h5
                rw [if_neg (by omega)] at h
                rw [hint]
                refine ⟨hbi, ?_⟩
                rw [hint2]
                refine ⟨fun h7 => ?_, fun h7 => ⟨hi, ?_⟩⟩
                · have h8 : ¬ g t (NumText.digitsVal b) = 1 := by simpa using h7
                  rw [if_neg h8] at h
                  exact h
                · have h8 : g t (NumText.digitsVal b) = 1 := by simpa using h7
                  rw [if_pos h8] at h
                  rw [hint]
                  refine ⟨hbi, ?_⟩
                  rw [hint2]
                  exact ⟨(by show 2 ≤ sizeLine; decide), h⟩
    · exact h.elim
end
end Pg

namespace Pg
open PySem L2 Fr0 Tx
section
variable {P : Program} {w : World} {K : PySem.W.Frag} {mg : Str → Option Value} {base : Heap} {CN CT CD c1 c2 c3 c4 c5 c6 c7 c8 : Addr}
theorem cpow {n : Int} (h0 : 0 ≤ n) (h1 : n ≤ 100) : CPow 10 n := ⟨h0, by omega, by decide⟩
theorem e10_58 : (10 : Int) ^ (58 : Int).toNat = 10000000000000000000000000000000000000000000000000000000000 := by decide +kernel
theorem e10_59 : (10 : Int) ^ (59 : Int).toNat = 100000000000000000000000000000000000000000000000000000000000 := by decide +kernel
theorem e10_50 : (10 : Int) ^ (50 : Int).toNat = 100000000000000000000000000000000000000000000000000 := by decide +kernel
theorem len_str {i : Int} (h0 : 0 ≤ i) (h : i < 10 ^ 62) : (Str.ofString (toString i)).length ≤ 62 := by
  rw [str_mk, mk_length]
  have e : sg i = [] := if_neg (by omega)
  rw [e, List.nil_append]
  refine dig_len 61 _ ?_
  have : (10 : Int) ^ 62 = 100000000000000000000000000000000000000000000000000000000000000 := by decide +kernel
  have : (10 : Nat) ^ (61 + 1) = 100000000000000000000000000000000000000000000000000000000000000 := by decide +kernel
  omega
theorem log62 {i : Int} (h0 : 0 ≤ i) (h : i < 10 ^ 62) : i.natAbs.log2 < 1920 := by
  by_cases hz : i.natAbs = 0
  · rw [hz]; decide
  · have : (10 : Int) ^ 62 = 100000000000000000000000000000000000000000000000000000000000000 := by decide +kernel
    refine (Nat.log2_lt hz).mpr (Nat.lt_of_lt_of_le (show i.natAbs < 10 ^ 62 from ?_) (by decide +kernel))
    have : (10 : Nat) ^ 62 = 100000000000000000000000000000000000000000000000000000000000000 := by decide +kernel
    omega
def TLFigs : DF := fun ds M q _ => match ds with
  | [.int _, .int _] => ∀ z : Str, z.length ≤ 200 → q (.str z) M
  | _ => False
theorem str_len_app (a b : Str) : (a ++ b).length = a.length + b.length := Str.length_append a b
theorem scLawFigures : FnScope ["_law_cell", "_law_ahead", "_law_way", "_law_number", "_law_text_here", "_law_at"] ["_law_cell", "_law_ahead"] (defScope sLawFigures) := ⟨rfl, rfl, rfl, by decide +kernel, rfl, by decide +kernel, by decide +kernel⟩
theorem ok_LawFigures {f : Addr} {fd : FuncData} (F : Fun K "_law_figures" "_law_figures" sLawFigures f fd) (E : Ev K mg CN CT CD c1 c2 c3 c4 c5 c6 c7 c8)  : FnOk P w K mg base (CX1 P w) 1 f fd ["_law_cell", "_law_ahead"] (spD K TLFigs) := by
  refine F.okD scLawFigures (fun ds M q x h => ?_) (fun cdv A outer s H E' hr => ⟨_, (jss_cons (js_set (i := 2) scLawFigures.nd rfl (Or.inl rfl) (j_mod (jv 0) jint))
      (jss_cons (js_set (i := 3) scLawFigures.nd rfl (Or.inl rfl) (j_mod (j_div (jv 0) jint) jint))
      (jss_cons (js_cut (js_if (jt_eq hr (jv 2) jint) (jss_one (js_set (i := 3) scLawFigures.nd rfl (Or.inl rfl) (j_add (j_ix (j_lst (ja_cons (j_pow jint jint) (ja_cons (j_pow jint jint) (ja_cons (j_pow jint jint) ja_nil)))) (j_mod (j_div (jv 0) jint) jint)) (j_mod (j_div (jv 0) jint) (j_pow jint jint))))) jss_nil))
      (jss_cons (js_cut (js_if (jt_eq hr (jv 2) jint) (jss_one (js_set (i := 3) scLawFigures.nd rfl (Or.inl rfl) (j_mul jint (j_mod (j_div (jv 1) jint) jint)))) jss_nil))
      (jss_cons (js_cut (js_if (JW.jt (jw_and (jt_eq hr (jv 2) jint) (jw_and1 (jt_eq hr (j_mod (j_div (jv 0) jint) jint) jint)))) (jss_one (js_ret jstr)) jss_nil))
      (jss_cons (js_cut (js_if (jt_eq hr (jv 2) jint) (jss_cons (js_set (i := 4) scLawFigures.nd rfl (Or.inl rfl) (j_str E.n_str (ja_cons (jv 3) ja_nil)))
      (jss_cons (js_set (i := 5) scLawFigures.nd rfl (Or.inl rfl) (j_mod (j_div (jv 0) jint) (j_add (j_len E.n_len (ja_cons (jv 4) ja_nil)) jint)))
      (jss_one (js_ret (j_add (j_add (j_slTo (jv 4) (jv 5)) (j_ix jstr (j_mod (j_div (jv 0) jint) jint))) (j_slFrom (jv 4) (jv 5))))))) jss_nil))
      (jss_one (js_ret (j_add (j_add (j_ix (j_lst (ja_cons jstr (ja_cons jstr (ja_cons jstr ja_nil)))) (j_mod (j_div (jv 0) jint) jint)) (j_ix (j_lst (ja_cons jstr (ja_cons jstr ja_nil))) (j_int E.n_int (ja_cons (j_eq hr (jv 2) jint) ja_nil)))) (j_str E.n_str (ja_cons (jv 3) ja_nil))))))))))), fun ds M q x h => ?_⟩)
  · unfold TLFigs at h; split at h; · rfl
    · exact h.elim
  · unfold TLFigs at h
    split at h
    · rename_i c a
      have big := big1000
      have p62 : (10 : Int) ^ 62 = 100000000000000000000000000000000000000000000000000000000000000 := by decide +kernel
      refine ⟨by decide, ⟨by decide, bgL (by decide)⟩, by decide, ?_⟩
      refine ⟨fun ρ M' => M' = M ∧ ∃ n : Int, ρ = [some (.int c), some (.int a), some (.int (c % 8)), some (.int n), none, none] ∧ 0 ≤ n ∧ n < 10 ^ 62, ⟨fun h1 => ?_, fun h1 => ?_⟩, ?_⟩
      · refine ⟨cpow (by decide) (by decide), cpow (by decide) (by decide), cpow (by decide) (by decide), (by show 3 ≤ sizeLine; decide), ⟨by decide, bgL (by decide)⟩, by decide, ?_⟩
        have i0 := Int.emod_nonneg (c / 24) (show (3 : Int) ≠ 0 by decide)
        have i1 := Int.emod_lt_of_pos (c / 24) (show (0 : Int) < 3 by decide)
        have j0 := Int.emod_nonneg (c / 72) (show (100000000000000000000000000000000000000000000000000 : Int) ≠ 0 by decide)
        have j1 := Int.emod_lt_of_pos (c / 72) (show (0 : Int) < 100000000000000000000000000000000000000000000000000 by decide)
        refine fIx_any i0 (by simpa using i1) (fun y hy => ?_)
        have hy : y = .int (10 ^ (58 : Int).toNat) ∨ y = .int (10 ^ (59 : Int).toNat) ∨ y = .int (10 ^ (60 : Int).toNat) := by simpa using hy
        rcases hy with rfl | rfl | rfl
        · refine ⟨⟨by decide, bgL (by decide)⟩, cpow (by decide) (by decide), (by rw [e10_50]; decide), rfl, _, rfl, ?_, ?_⟩
          · rw [e10_50, e10_58]; omega
          · rw [e10_50, e10_58]; omega
        · refine ⟨⟨by decide, bgL (by decide)⟩, cpow (by decide) (by decide), (by rw [e10_50]; decide), rfl, _, rfl, ?_, ?_⟩
          · rw [e10_50, e10_59]; omega
          · rw [e10_50, e10_59]; omega
        · refine ⟨⟨by decide, bgL (by decide)⟩, cpow (by decide) (by decide), (by rw [e10_50]; decide), rfl, _, rfl, ?_, ?_⟩
          · rw [e10_50, e10_60]; omega
          · rw [e10_50, e10_60]; omega
      · have i0 := Int.emod_nonneg (c / 24) (show (100 : Int) ≠ 0 by decide)
        have i1 := Int.emod_lt_of_pos (c / 24) (show (0 : Int) < 100 by decide)
        exact ⟨rfl, _, rfl, i0, by omega⟩
      · rintro ρ1 M1 ⟨rfl, n, rfl, hn0, hn1⟩
        refine ⟨fun ρ M' => M' = M1 ∧ ∃ n : Int, ρ = [some (.int c), some (.int a), some (.int (c % 8)), some (.int n), none, none] ∧ 0 ≤ n ∧ n < 10 ^ 62, ⟨fun h1 => ?_, fun h1 => ?_⟩, ?_⟩
        · have i0 := Int.emod_nonneg (a / 24) (show (100 : Int) ≠ 0 by decide)
          have i1 := Int.emod_lt_of_pos (a / 24) (show (0 : Int) < 100 by decide)
          refine ⟨⟨by decide, bgL (by decide)⟩, by decide, ⟨bgL (by decide), bgL ?_⟩, rfl, _, rfl, ?_, ?_⟩
          · have := e210; omega
          · omega
          · omega
        · exact ⟨rfl, n, rfl, hn0, hn1⟩
        · rintro ρ2 M2 ⟨rfl, n, rfl, hn0, hn1⟩
          have ls := len_str hn0 hn1
          have lg := log62 hn0 hn1
          have rest : ∀ s : Str, s.length ≤ 200 → q (.str s) M2 := h
          have sl : ∀ (s : Str) (u v : Option Int), s.length ≤ 62 → (Txt.slice s u v).length ≤ 62 := fun s u v hs => Nat.le_trans (Txt.slice_le s u v) hs
          refine ⟨fun ρ M' => M' = M2 ∧ ρ = [some (.int c), some (.int a), some (.int (c % 8)), some (.int n), none, none], ⟨fun h1 => ⟨⟨by decide, bgL (by decide)⟩, by decide, fun h2 => rest _ (by decide), fun h2 => ⟨rfl, rfl⟩⟩, fun h1 => ⟨(fun z => nomatch z), fun _ => ⟨rfl, rfl⟩⟩⟩, ?_⟩
          rintro ρ3 M3 ⟨rfl, rfl⟩
          refine ⟨fun ρ M' => M' = M3 ∧ ρ = [some (.int c), some (.int a), some (.int (c % 8)), some (.int n), none, none], ⟨fun h1 => ?_, fun h1 => ⟨rfl, rfl⟩⟩, ?_⟩
          · generalize hs : Str.ofString (toString n) = sn at ls
            refine ⟨lg, ?_⟩
            rw [hs]
            have l0 : (0 : Int) < sn.length + 1 := by omega
            refine ⟨⟨by decide, bgL (by decide)⟩, (by omega), l0, (by omega), ⟨by decide, bgL (by decide)⟩, by decide, ?_⟩
            have i0 := Int.emod_nonneg (c / 9600) (show (8 : Int) ≠ 0 by decide)
            have i1 := Int.emod_lt_of_pos (c / 9600) (show (0 : Int) < 8 by decide)
            refine fIx_sign (by decide) i0 (by rw [show (Str.ofString "_.,e+-x ").length = 8 by decide +kernel]; exact i1) (fun y => ?_)
            have a1 := sl sn none (some (c / 2400 % (sn.length + 1))) ls
            have a2 := sl sn (some (c / 2400 % (sn.length + 1))) none ls
            have e1 : (⟨#[y]⟩ : Str).length = 1 := rfl
            refine ⟨by omega, by omega, ?_, rest _ ?_⟩
            · rw [str_len_app]; omega
            · rw [str_len_app, str_len_app]; omega
          · rintro ρ4 M4 ⟨rfl, rfl⟩
            have i0 := Int.emod_nonneg (c / 8) (show (3 : Int) ≠ 0 by decide)
            have i1 := Int.emod_lt_of_pos (c / 8) (show (0 : Int) < 3 by decide)
            refine ⟨(by show 3 ≤ sizeLine; decide), ⟨by decide, bgL (by decide)⟩, by decide, ?_⟩
            refine fIx_any i0 (by simpa using i1) (fun y hy => ?_)
            refine ⟨(by show 2 ≤ sizeLine; decide), ?_⟩
            dsimp only [sSeq, sNext, sIf, sRet, sSet, sDrop, sRaise, dCall, dFn, dOp, dUn, dVar, dC, aNil, aCons, dTup, dLst, tstD, andT, orT, notT, dAnd, dOr, dNot, dIf, dSM, startD, List.map_cons, List.map_nil, List.length_cons, List.length_nil, List.cons_append, List.nil_append, List.replicate, List.getElem?_cons_zero, List.getElem?_cons_succ, List.set_cons_zero, List.set_cons_succ, Nat.reduceSub, Nat.reduceAdd, Nat.zero_add]
            simp only [fEqF, fInt]
            refine fIx_any ?_ ?_ (fun y2 hy2 => ?_)
            · split <;> decide
            · split <;> decide
            have s1 : ∃ s : Str, y = .str s ∧ s.length ≤ 1 := by
              have hy : y = .str (Str.ofString "") ∨ y = .str (Str.ofString "") ∨ y = .str (Str.ofString "0") := by simpa using hy
              rcases hy with rfl | rfl | rfl <;> exact ⟨_, rfl, by decide +kernel⟩
            have s2 : ∃ s : Str, y2 = .str s ∧ s.length ≤ 1 := by
              have hy2 : y2 = .str (Str.ofString "") ∨ y2 = .str (Str.ofString "0") := by simpa using hy2
              rcases hy2 with rfl | rfl <;> exact ⟨_, rfl, by decide +kernel⟩
            obtain ⟨w1, rfl, lw1⟩ := s1
            obtain ⟨w2, rfl, lw2⟩ := s2
            refine ⟨by omega, lg, ?_, rest _ ?_⟩
            · rw [str_len_app]; omega
            · rw [str_len_app, str_len_app]; omega
    · exact h.elim
theorem str_menu {l : List Str} {y : Dt} {n : Nat} (h : y ∈ l.map Dt.str) (hl : l.all (fun s => decide (s.length ≤ n)) = true) : ∃ s : Str, y = .str s ∧ s.length ≤ n := by
  obtain ⟨s, hs, rfl⟩ := List.mem_map.mp h
  exact ⟨s, rfl, of_decide_eq_true (List.all_eq_true.mp hl s hs)⟩
abbrev TL1 : List Str := ["", "", "", "-", "-", "--", "+", " "]
abbrev TL2 : List Str := ["", "/", "/", "/", "/", "//", "/-", " /"]
abbrev TL3 : List Str := ["", "", "", "", "", " ", "a", "\n"]
def TText : DF := fun ds M q _ => match ds with
  | [.lst [.int _, .int _, .int _]] => ∀ z : Str, z.length ≤ 1000 → q (.str z) M
  | _ => False
theorem scLawText : FnScope ["_law_cells", "_law_head", "_law_stroke", "_law_tail", "_law_text_here"] ["_law_cells"] (defScope sLawText) := ⟨rfl, rfl, rfl, by decide +kernel, rfl, by decide +kernel, by decide +kernel⟩
theorem ok_LawText {f : Addr} {fd : FuncData} (F : Fun K "_law_text" "_law_text" sLawText f fd) (E : Ev K mg CN CT CD c1 c2 c3 c4 c5 c6 c7 c8) {fLawFigures : Addr} {dLawFigures : FuncData} (c_LawFigures : CalD P w K mg base 1 "_law_figures" ["_law_cell", "_law_ahead"] TLFigs fLawFigures dLawFigures) : FnOk P w K mg base (CX1 P w) 2 f fd ["_law_cells"] (spD K TText) := by
  refine F.okD scLawText (fun ds M q x h => ?_) (fun cdv A outer s H E' hr => ⟨_, (jss_cons (js_set (i := 1) scLawText.nd rfl (Or.inl rfl) (j_ix (j_lst (ja_cons jstr (ja_cons jstr (ja_cons jstr (ja_cons jstr (ja_cons jstr (ja_cons jstr (ja_cons jstr (ja_cons jstr ja_nil))))))))) (j_mod (j_ix (jv 0) jint) jint)))
      (jss_cons (js_set (i := 2) scLawText.nd rfl (Or.inl rfl) (j_ix (j_lst (ja_cons jstr (ja_cons jstr (ja_cons jstr (ja_cons jstr (ja_cons jstr (ja_cons jstr (ja_cons jstr (ja_cons jstr ja_nil))))))))) (j_mod (j_ix (jv 0) jint) jint)))
      (jss_cons (js_set (i := 3) scLawText.nd rfl (Or.inl rfl) (j_ix (j_lst (ja_cons jstr (ja_cons jstr (ja_cons jstr (ja_cons jstr (ja_cons jstr (ja_cons jstr (ja_cons jstr (ja_cons jstr ja_nil))))))))) (j_mod (j_ix (jv 0) jint) jint)))
      (jss_cons (js_set (i := 4) scLawText.nd rfl (Or.inl rfl) (j_add (j_add (jv 1) (j_fn c_LawFigures hr passes1 (ja_cons (j_div (j_ix (jv 0) jint) jint) (ja_cons jint ja_nil)))) (jv 2)))
      (jss_cons (js_cut (js_if (jt_ne hr (jv 2) jstr) (jss_one (js_set (i := 4) scLawText.nd rfl (Or.inl rfl) (j_add (jv 4) (j_fn c_LawFigures hr passes1 (ja_cons (j_div (j_ix (jv 0) jint) jint) (ja_cons (j_div (j_ix (jv 0) jint) jint) ja_nil)))))) jss_nil))
      (jss_one (js_ret (j_add (jv 4) (jv 3))))))))), fun ds M q x h => ?_⟩)
  · unfold TText at h; split at h; · rfl
    · exact h.elim
  · unfold TText at h
    split at h
    · rename_i a b c
      have big := big1000
      have ra0 := Int.emod_nonneg a (show (8 : Int) ≠ 0 by decide)
      have ra1 := Int.emod_lt_of_pos a (show (0 : Int) < 8 by decide)
      have rb0 := Int.emod_nonneg b (show (8 : Int) ≠ 0 by decide)
      have rb1 := Int.emod_lt_of_pos b (show (0 : Int) < 8 by decide)
      have rc0 := Int.emod_nonneg c (show (8 : Int) ≠ 0 by decide)
      have rc1 := Int.emod_lt_of_pos c (show (0 : Int) < 8 by decide)
      refine ⟨(by show 8 ≤ sizeLine; decide), by decide, ?_⟩
      refine fIx_any ra0 (by simpa using ra1) (fun y1 hy1 => ?_)
      have s1 : ∃ s : Str, y1 = .str s ∧ s.length ≤ 2 := by
        exact str_menu (l := TL1) hy1 (by decide +kernel)
      obtain ⟨w1, rfl, l1⟩ := s1
      refine ⟨(by show 8 ≤ sizeLine; decide), by decide, ?_⟩
      refine fIx_any rb0 (by simpa using rb1) (fun y2 hy2 => ?_)
      have s2 : ∃ s : Str, y2 = .str s ∧ s.length ≤ 2 := by
        exact str_menu (l := TL2) hy2 (by decide +kernel)
      obtain ⟨w2, rfl, l2⟩ := s2
      refine ⟨(by show 8 ≤ sizeLine; decide), by decide, ?_⟩
      refine fIx_any rc0 (by simpa using rc1) (fun y3 hy3 => ?_)
      have s3 : ∃ s : Str, y3 = .str s ∧ s.length ≤ 2 := by
        exact str_menu (l := TL3) hy3 (by decide +kernel)
      obtain ⟨w3, rfl, l3⟩ := s3
      refine ⟨⟨by decide, bgL (by decide)⟩, fun z1 hz1 => ⟨by omega, ?_, ?_⟩⟩
      · rw [str_len_app]; omega
      · refine ⟨fun ρ M' => M' = M ∧ ∃ z : Str, ρ = [some (.lst [.int a, .int b, .int c]), some (.str w1), some (.str w2), some (.str w3), some (.str z)] ∧ z.length ≤ 500, ⟨fun h1 => ⟨⟨by decide, bgL (by decide)⟩, ⟨by decide, bgL (by decide)⟩, fun z2 hz2 => ⟨?_, rfl, _, rfl, ?_⟩⟩, fun h1 => ⟨rfl, _, rfl, ?_⟩⟩, ?_⟩
        · rw [str_len_app, str_len_app]; omega
        · rw [str_len_app, str_len_app, str_len_app]; omega
        · rw [str_len_app, str_len_app]; omega
        · rintro ρ M1 ⟨rfl, z, rfl, hz⟩
          refine ⟨by omega, h _ ?_⟩
          rw [str_len_app]; omega
    · exact h.elim
end
end Pg

namespace Pg
open PySem L2 Fr0 Tx
section
variable {P : Program} {w : World} {K : PySem.W.Frag} {mg : Str → Option Value} {base : Heap} {CN CT CD c1 c2 c3 c4 c5 c6 c7 c8 : Addr}
def TRight : DF := fun ds M q _ => match ds with
  | [.str z] => z.length ≤ 1000 ∧ q (.bl true) M
  | _ => False
theorem scLawRight : FnScope ["_law_text_here", "_law_due_here", "_law_seen", "_law_found", "e", "_law_others"] ["_law_text_here"] (defScope sLawRight) := ⟨rfl, rfl, rfl, by decide +kernel, rfl, by decide +kernel, by decide +kernel⟩
theorem ok_LawRight {f : Addr} {fd : FuncData} (F : Fun K "_law_right" "_law_right" sLawRight f fd) (E : Ev K mg CN CT CD c1 c2 c3 c4 c5 c6 c7 c8) {fLawDue : Addr} {dLawDue : FuncData} (c_LawDue : CalD P w K mg base 2 "_law_due" ["_law_text_here"] TDue fLawDue dLawDue) {fReadFraction : Addr} {dReadFraction : FuncData} (c_ReadFraction : CalD P w K mg base 3 "read_fraction" ["text"] (TRead CT) fReadFraction dReadFraction) {fLawWhole : Addr} {dLawWhole : FuncData} (c_LawWhole : CalD P w K mg base 1 "_law_whole" ["_law_found"] TWhole fLawWhole dLawWhole) : FnOk P w K mg base (CX1 P w) 4 f fd ["_law_text_here"] (spD K TRight) := by
  refine F.okD scLawRight (fun ds M q x h => ?_) (fun cdv A outer s H E' hr => ⟨_, (jss_cons (js_set (i := 1) scLawRight.nd rfl (Or.inl rfl) (j_fn c_LawDue hr passes1 (ja_cons (jv 0) ja_nil)))
      (jss_cons (js_set (i := 2) scLawRight.nd rfl (Or.inl rfl) jnon)
      (jss_cons (js_set (i := 3) scLawRight.nd rfl (Or.inl rfl) jnon)
      (jss_cons (js_tryE (i := 4) (fun C => C = CT) scLawRight.nd rfl E.eDuelError (by decide +kernel) E.mDuelError (fun R pins => (jss_one (js_set (i := 3) scLawRight.nd rfl (Or.inl rfl) (j_fn c_ReadFraction hr passesT (ja_cons (jv 0) ja_nil))))) (fun x C pn hcc ex => (jss_cons (js_set (i := 5) scLawRight.nd rfl (Or.inl rfl) (j_lst (ja_cons (j_isE K ex (hcc ▸ E.tNoText) E.n_isinstance (ja_cons (jv 4) (ja_cons (j_gref E.mNoNumber) ja_nil))) (ja_cons (j_isE K ex (hcc ▸ E.tNoText) E.n_isinstance (ja_cons (jv 4) (ja_cons (j_gref E.mNoName) ja_nil))) (ja_cons (j_isE K ex (hcc ▸ E.tNoText) E.n_isinstance (ja_cons (jv 4) (ja_cons (j_gref E.mNoFloor) ja_nil))) (ja_cons (j_isE K ex (hcc ▸ E.tNoText) E.n_isinstance (ja_cons (jv 4) (ja_cons (j_gref E.mNoRow) ja_nil))) ja_nil))))))
      (jss_cons (js_set (i := 5) scLawRight.nd rfl (Or.inl rfl) (j_add (jv 5) (j_lst (ja_cons (j_isE K ex (hcc ▸ E.tNoText) E.n_isinstance (ja_cons (jv 4) (ja_cons (j_gref E.mNoPlace) ja_nil))) (ja_cons (j_isE K ex (hcc ▸ E.tNoText) E.n_isinstance (ja_cons (jv 4) (ja_cons (j_gref E.mNoPlan) ja_nil))) (ja_cons (j_isE K ex (hcc ▸ E.tNoText) E.n_isinstance (ja_cons (jv 4) (ja_cons (j_gref E.mNoGoal) ja_nil))) ja_nil))))))
      (jss_cons (js_set (i := 5) scLawRight.nd rfl (Or.inl rfl) (j_add (jv 5) (j_lst (ja_cons (j_isE K ex (hcc ▸ E.tNoText) E.n_isinstance (ja_cons (jv 4) (ja_cons (j_gref E.mNoAnswer) ja_nil))) (ja_cons (j_isE K ex (hcc ▸ E.tNoText) E.n_isinstance (ja_cons (jv 4) (ja_cons (j_gref E.mManyAnswers) ja_nil))) ja_nil)))))
      (jss_one (js_set (i := 2) scLawRight.nd rfl (Or.inl rfl) (j_tup (ja_cons (j_isE K ex (hcc ▸ E.tNoText) E.n_isinstance (ja_cons (jv 4) (ja_cons (j_gref E.mNoText) ja_nil))) (ja_cons (j_anyE ex E.n_any (ja_cons (jv 5) ja_nil)) ja_nil))))))))))
      (jss_cons (js_if (jt_isN (jv 1) jnon) (jss_one (js_ret (j_eq hr (jv 2) (j_tup (ja_cons jbl (ja_cons jbl ja_nil)))))) jss_nil)
      (jss_cons (js_if (JW.jt (jw_or (jt_notN (jv 2) jnon) (jw_or (jt_not (jt_val (j_isi K E.n_isinstance (ja_cons (jv 3) (ja_cons (j_ty E.n_tuple boot_tuple') ja_nil))))) (jw_or1 (jt_ne hr (j_len E.n_len (ja_cons (jv 3) ja_nil)) jint))))) (jss_one (js_ret jbl)) jss_nil)
      (jss_one (js_ret (je_and (j_fn c_LawWhole hr passes1 (ja_cons (j_ix (jv 3) jint) ja_nil)) (je_and (j_fn c_LawWhole hr passes1 (ja_cons (j_ix (jv 3) jint) ja_nil)) (je_one (j_eq hr (jv 3) (jv 1))))))))))))), fun ds M q x h => ?_⟩)
  · unfold TRight at h; split at h; · rfl
    · exact h.elim
  · unfold TRight at h
    split at h
    · rename_i z
      obtain ⟨hz, h⟩ := h
      refine ⟨hz, ?_⟩
      cases hrd : rd z with
      | none =>
        refine ⟨hz, ?_⟩
        rw [hrd]
        refine ⟨rfl, rfl, E.sub, fun e => ?_⟩
        dsimp only [sSeq, sNext, sIf, sRet, sSet, sDrop, sRaise, dCall, dFn, dOp, dUn, dVar, dC, aNil, aCons, dTup, dLst, tstD, andT, orT, notT, dAnd, dOr, dNot, dIf, dSM, startD, List.map_cons, List.map_nil, List.length_cons, List.length_nil, List.cons_append, List.nil_append, List.replicate, List.getElem?_cons_zero, List.getElem?_cons_succ, List.set_cons_zero, List.set_cons_succ, Nat.reduceSub, Nat.reduceAdd, Nat.zero_add]
        refine fIsE_of rfl E.k0 (fIsE_of rfl E.k1 (fIsE_of rfl E.k2 (fIsE_of rfl E.k3 ⟨(by show 4 ≤ sizeLine; decide), ?_⟩)))
        refine fIsE_of rfl E.k4 (fIsE_of rfl E.k5 (fIsE_of rfl E.k6 ⟨(by show 3 ≤ sizeLine; decide), (by show 4 + 3 ≤ sizeLine; decide), ?_⟩))
        refine fIsE_of rfl E.k7 (fIsE_of rfl E.k8 ⟨(by show 2 ≤ sizeLine; decide), (by show 7 + 2 ≤ sizeLine; decide), ?_⟩)
        refine fIsE_of rfl kit_yes ⟨[false, false, false, false, false, false, false, false, false], rfl, (fun k e => nomatch e), (fun k e => nomatch e), (by show 2 ≤ sizeLine; decide), ?_⟩
        refine ⟨fun _ => ⟨(by show 2 ≤ sizeLine; decide), h⟩, fun z => (nomatch z)⟩
      | some tb =>
        obtain ⟨t, b⟩ := tb
        refine ⟨hz, ?_⟩
        rw [hrd]
        refine ⟨fun z => (nomatch z), fun _ => ?_⟩
        dsimp only [sSeq, sNext, sIf, sRet, sSet, sDrop, sRaise, dCall, dFn, dOp, dUn, dVar, dC, aNil, aCons, dTup, dLst, tstD, andT, orT, notT, dAnd, dOr, dNot, dIf, dSM, startD, List.map_cons, List.map_nil, List.length_cons, List.length_nil, List.cons_append, List.nil_append, List.replicate, List.getElem?_cons_zero, List.getElem?_cons_succ, List.set_cons_zero, List.set_cons_succ, Nat.reduceSub, Nat.reduceAdd, Nat.zero_add]
        refine ⟨fun z => (nomatch z), fun _ => fIsi_of rfl rfl k_self ⟨fun z => (nomatch z), fun _ => ⟨fun z => absurd z (by simp), fun _ => ?_⟩⟩⟩
        refine ⟨fun _ => ⟨fun _ => ?_, fun z => (nomatch z)⟩, fun z => (nomatch z)⟩
        show q (.bl (eqVs [.int t, .int b] [.int t, .int b])) M
        rw [eqVs_self]
        exact h
    · exact h.elim
theorem scLaw : FnScope ["_law_script", "_law_k", "_law_text_here"] ["_law_script"] (defScope sLaw) := ⟨rfl, rfl, rfl, by decide +kernel, rfl, by decide +kernel, by decide +kernel⟩
theorem ok_Law {f : Addr} {fd : FuncData} (F : Fun K "law" "law" sLaw f fd) (E : Ev K mg CN CT CD c1 c2 c3 c4 c5 c6 c7 c8) {fLawText : Addr} {dLawText : FuncData} (c_LawText : CalD P w K mg base 2 "_law_text" ["_law_cells"] TText fLawText dLawText) {fLawNth : Addr} {dLawNth : FuncData} (c_LawNth : CalD P w K mg base 1 "_law_nth" ["_law_script", "_law_k"] TNth fLawNth dLawNth) {fLawRight : Addr} {dLawRight : FuncData} (c_LawRight : CalD P w K mg base 4 "_law_right" ["_law_text_here"] TRight fLawRight dLawRight) : FnOk P w K mg base (CX1 P w) 5 f fd ["_law_script"] (spD K TLaw) := by
  refine F.okD scLaw (fun ds M q x h => ?_) (fun cdv A outer s H E' hr => ⟨_, (jss_cons (js_for (ji_range E.n_range (ja_cons (j_max E.n_max (ja_cons jint (ja_cons (j_min E.n_min (ja_cons (j_len E.n_len (ja_cons (jv 0) ja_nil)) (ja_cons jint ja_nil))) ja_nil))) ja_nil)) (pg_name (i := 1) scLaw.nd rfl (Or.inr rfl)) gd_name (jss_cons (js_set (i := 2) scLaw.nd rfl (Or.inl rfl) (j_fn c_LawText hr passes1 (ja_cons (j_comp (ys := ["_law_script", "_law_k"]) (caps := [0, 1]) ⟨rfl, by decide +kernel, by decide +kernel, rfl, (by show ∀ p : Str × NameKind, p ∈ _ → p.2 = NameKind.free → List.lookup p.1 (defScope sLaw).names = some .cell; decide +kernel), by decide +kernel, (by show ∀ q : Str × Nat, q ∈ _ → (["_law_script", "_law_k", "_law_text_here"] : List Str)[q.2]? = some q.1 ∧ List.lookup q.1 (defScope sLaw).names = some .cell ∧ _; decide +kernel), rfl⟩ (ji_range E.n_range (ja_cons jint ja_nil)) (fun C s H fp => (j_fn c_LawNth hr (passesN (P := P) (w := w)) (ja_cons (jv 1) (ja_cons (j_add (jv 2) (jv 0)) ja_nil))))) ja_nil)))
      (jss_one (js_if (jt_not (jt_val (j_fn c_LawRight hr passes1 (ja_cons (jv 2) ja_nil)))) (jss_one (js_ret jbl)) jss_nil))))
      (jss_one (js_ret jbl))), fun ds M q x h => ?_⟩)
  · obtain ⟨ns, rfl, _⟩ := h; rfl
  · obtain ⟨ns, rfl, hl, hq⟩ := h
    refine ⟨⟨?_, ?_⟩, forD_inv (fun ρ M' => ∃ x1 x2, ρ = [some (.scr ns), x1, x2]) _ _ _ ⟨_, _, rfl⟩ ?_ ?_⟩
    · rw [List.length_map]; split <;> split <;> omega
    · rw [List.length_map]; split <;> split <;> omega
    · rintro d hd Dn' ρ M1 ⟨x1, x2, rfl⟩ hrt hx hnx
      obtain ⟨k, _, rfl⟩ := rng_mem hd
      refine ⟨⟨by decide, by decide⟩, (by show 3 ≤ sizeLine; decide), ?_⟩
      refine compD_map (f := fun d => match d with | .int j => .int (nth ns (0 + (k : Int) + j)) | _ => .non) _ [] (fun d hd q hq => ?_) ?_
      · obtain ⟨j, _, rfl⟩ := rng_mem hd
        exact ⟨by omega, hq⟩
      · exact fun z hz => ⟨hz, fun z => (nomatch z), fun _ => hnx _ _ ⟨_, _, rfl⟩⟩
    · rintro ρ M1 ⟨x1, x2, rfl⟩
      exact hq _
end
end Pg


namespace Pg
open PySem L2 Fr0 Tx
theorem ib_of {K : PySem.W.Frag} (h : PySem.W.subIn K (.type "int") (.type "bool") = some false) : PySem.W.kitOne K (.type "int") (.type "bool") = some false := by
  unfold PySem.W.kitOne PySem.W.kitCls
  rw [if_neg (by decide +kernel)]
  show (if PySem.W.kitMeta "bool" = true then _ else _) = _
  rw [if_pos (by decide +kernel)]
  exact h
theorem all_mk {l : PySem.W.OpenLaw} {w : World} {K : PySem.W.Frag} {h : Heap} {mg : Str → Option Value} {fa CNoNumber CNoText CDuelError DNoName DNoFloor DNoRow DNoPlace DNoPlan DNoGoal DNoAnswer DManyAnswers f1 f2 f3 f4 f5 f6 f7 f8 f9 f10 f11 f12 f13 f14 : Addr} (X : K.In h) (G : h.Ns mainGlobals mg) (hfa : mg "law" = some (.ref fa))
    {od1 an1 od2 an2 od3 an3 od4 an4 od5 an5 od6 an6 od7 an7 od8 an8 od9 an9 od10 an10 od11 an11 od12 an12 od13 an13 od14 an14 : Option Addr} {sl1 sl2 sl3 sl4 sl5 sl6 sl7 sl8 sl9 sl10 sl11 sl12 sl13 sl14 : Array (Option Value)} {oc1 kV1 dc1 pm1 cd1 ct1 oc2 kV2 dc2 pm2 cd2 ct2 oc3 kV3 dc3 pm3 cd3 ct3 oc4 kV4 dc4 pm4 cd4 ct4 oc5 kV5 dc5 pm5 cd5 ct5 oc6 kV6 dc6 pm6 cd6 ct6 oc7 kV7 dc7 pm7 cd7 ct7 oc8 kV8 dc8 pm8 cd8 ct8 oc9 kV9 dc9 pm9 cd9 ct9 oc10 kV10 dc10 pm10 cd10 ct10 oc11 kV11 dc11 pm11 cd11 ct11 oc12 kV12 dc12 pm12 cd12 ct12 oc13 kV13 dc13 pm13 cd13 ct13 oc14 kV14 dc14 pm14 cd14 ct14 : Value} {tkFIGURES tkMOST_FIGURES : Tok}
    (aENoNumber : PySem.W.nsIn K mainGlobals "NoNumber" = some (some (.ref CNoNumber))) (xENoNumber : PySem.W.excIn K CNoNumber [.type "ValueError", .type "Exception", .type "BaseException", .type "object"] "ValueError.__new__" = true)
    (aENoText : PySem.W.nsIn K mainGlobals "NoText" = some (some (.ref CNoText))) (xENoText : PySem.W.excIn K CNoText [.type "ValueError", .type "Exception", .type "BaseException", .type "object"] "ValueError.__new__" = true)
    (aEDuelError : PySem.W.nsIn K mainGlobals "DuelError" = some (some (.ref CDuelError))) (xEDuelError : PySem.W.excIn K CDuelError [.type "ValueError", .type "Exception", .type "BaseException", .type "object"] "ValueError.__new__" = true)
    (acFIGURES : PySem.W.nsIn K mainGlobals "FIGURES" = some (some (.str "0123456789" tkFIGURES)))
    (acMOST_FIGURES : PySem.W.nsIn K mainGlobals "MOST_FIGURES" = some (some (.int (60) tkMOST_FIGURES)))
    (a1 : PySem.W.nsIn K mainGlobals "common_divisor" = some (some (.ref f1))) (l1 : K.lookup f1 = some ⟨oc1, od1, .func (PySem.W.fnOf "common_divisor" "common_divisor" (defArgs sCommonDivisor) (defBody sCommonDivisor) (defScope sCommonDivisor) .none kV1 dc1 pm1 an1 cd1 ct1), sl1⟩) (c1 : PySem.W.codeIn K cd1 "common_divisor" = true) (k1 : PySem.W.keepIn K (.ref f1) = true)
    (a2 : PySem.W.nsIn K mainGlobals "fraction" = some (some (.ref f2))) (l2 : K.lookup f2 = some ⟨oc2, od2, .func (PySem.W.fnOf "fraction" "fraction" (defArgs sFraction) (defBody sFraction) (defScope sFraction) .none kV2 dc2 pm2 an2 cd2 ct2), sl2⟩) (c2 : PySem.W.codeIn K cd2 "fraction" = true) (k2 : PySem.W.keepIn K (.ref f2) = true)
    (a3 : PySem.W.nsIn K mainGlobals "read_figures" = some (some (.ref f3))) (l3 : K.lookup f3 = some ⟨oc3, od3, .func (PySem.W.fnOf "read_figures" "read_figures" (defArgs sReadFigures) (defBody sReadFigures) (defScope sReadFigures) .none kV3 dc3 pm3 an3 cd3 ct3), sl3⟩) (c3 : PySem.W.codeIn K cd3 "read_figures" = true) (k3 : PySem.W.keepIn K (.ref f3) = true)
    (a4 : PySem.W.nsIn K mainGlobals "read_top" = some (some (.ref f4))) (l4 : K.lookup f4 = some ⟨oc4, od4, .func (PySem.W.fnOf "read_top" "read_top" (defArgs sReadTop) (defBody sReadTop) (defScope sReadTop) .none kV4 dc4 pm4 an4 cd4 ct4), sl4⟩) (c4 : PySem.W.codeIn K cd4 "read_top" = true) (k4 : PySem.W.keepIn K (.ref f4) = true)
    (a5 : PySem.W.nsIn K mainGlobals "read_fraction" = some (some (.ref f5))) (l5 : K.lookup f5 = some ⟨oc5, od5, .func (PySem.W.fnOf "read_fraction" "read_fraction" (defArgs sReadFraction) (defBody sReadFraction) (defScope sReadFraction) .none kV5 dc5 pm5 an5 cd5 ct5), sl5⟩) (c5 : PySem.W.codeIn K cd5 "read_fraction" = true) (k5 : PySem.W.keepIn K (.ref f5) = true)
    (a6 : PySem.W.nsIn K mainGlobals "_law_nth" = some (some (.ref f6))) (l6 : K.lookup f6 = some ⟨oc6, od6, .func (PySem.W.fnOf "_law_nth" "_law_nth" (defArgs sLawNth) (defBody sLawNth) (defScope sLawNth) .none kV6 dc6 pm6 an6 cd6 ct6), sl6⟩) (c6 : PySem.W.codeIn K cd6 "_law_nth" = true) (k6 : PySem.W.keepIn K (.ref f6) = true)
    (a7 : PySem.W.nsIn K mainGlobals "_law_figures" = some (some (.ref f7))) (l7 : K.lookup f7 = some ⟨oc7, od7, .func (PySem.W.fnOf "_law_figures" "_law_figures" (defArgs sLawFigures) (defBody sLawFigures) (defScope sLawFigures) .none kV7 dc7 pm7 an7 cd7 ct7), sl7⟩) (c7 : PySem.W.codeIn K cd7 "_law_figures" = true) (k7 : PySem.W.keepIn K (.ref f7) = true)
    (a8 : PySem.W.nsIn K mainGlobals "_law_text" = some (some (.ref f8))) (l8 : K.lookup f8 = some ⟨oc8, od8, .func (PySem.W.fnOf "_law_text" "_law_text" (defArgs sLawText) (defBody sLawText) (defScope sLawText) .none kV8 dc8 pm8 an8 cd8 ct8), sl8⟩) (c8 : PySem.W.codeIn K cd8 "_law_text" = true) (k8 : PySem.W.keepIn K (.ref f8) = true)
    (a9 : PySem.W.nsIn K mainGlobals "_law_gcd" = some (some (.ref f9))) (l9 : K.lookup f9 = some ⟨oc9, od9, .func (PySem.W.fnOf "_law_gcd" "_law_gcd" (defArgs sLawGcd) (defBody sLawGcd) (defScope sLawGcd) .none kV9 dc9 pm9 an9 cd9 ct9), sl9⟩) (c9 : PySem.W.codeIn K cd9 "_law_gcd" = true) (k9 : PySem.W.keepIn K (.ref f9) = true)
    (a10 : PySem.W.nsIn K mainGlobals "_law_are_figures" = some (some (.ref f10))) (l10 : K.lookup f10 = some ⟨oc10, od10, .func (PySem.W.fnOf "_law_are_figures" "_law_are_figures" (defArgs sLawAreFigures) (defBody sLawAreFigures) (defScope sLawAreFigures) .none kV10 dc10 pm10 an10 cd10 ct10), sl10⟩) (c10 : PySem.W.codeIn K cd10 "_law_are_figures" = true) (k10 : PySem.W.keepIn K (.ref f10) = true)
    (a11 : PySem.W.nsIn K mainGlobals "_law_due" = some (some (.ref f11))) (l11 : K.lookup f11 = some ⟨oc11, od11, .func (PySem.W.fnOf "_law_due" "_law_due" (defArgs sLawDue) (defBody sLawDue) (defScope sLawDue) .none kV11 dc11 pm11 an11 cd11 ct11), sl11⟩) (c11 : PySem.W.codeIn K cd11 "_law_due" = true) (k11 : PySem.W.keepIn K (.ref f11) = true)
    (a12 : PySem.W.nsIn K mainGlobals "_law_whole" = some (some (.ref f12))) (l12 : K.lookup f12 = some ⟨oc12, od12, .func (PySem.W.fnOf "_law_whole" "_law_whole" (defArgs sLawWhole) (defBody sLawWhole) (defScope sLawWhole) .none kV12 dc12 pm12 an12 cd12 ct12), sl12⟩) (c12 : PySem.W.codeIn K cd12 "_law_whole" = true) (k12 : PySem.W.keepIn K (.ref f12) = true)
    (a13 : PySem.W.nsIn K mainGlobals "_law_right" = some (some (.ref f13))) (l13 : K.lookup f13 = some ⟨oc13, od13, .func (PySem.W.fnOf "_law_right" "_law_right" (defArgs sLawRight) (defBody sLawRight) (defScope sLawRight) .none kV13 dc13 pm13 an13 cd13 ct13), sl13⟩) (c13 : PySem.W.codeIn K cd13 "_law_right" = true) (k13 : PySem.W.keepIn K (.ref f13) = true)
    (a14 : PySem.W.nsIn K mainGlobals "law" = some (some (.ref f14))) (l14 : K.lookup f14 = some ⟨oc14, od14, .func (PySem.W.fnOf "law" "law" (defArgs sLaw) (defBody sLaw) (defScope sLaw) .none kV14 dc14 pm14 an14 cd14 ct14), sl14⟩) (c14 : PySem.W.codeIn K cd14 "law" = true) (k14 : PySem.W.keepIn K (.ref f14) = true)
    (z_len : PySem.W.nsIn K mainGlobals "len" = some none)
    (z_abs : PySem.W.nsIn K mainGlobals "abs" = some none)
    (z_isinstance : PySem.W.nsIn K mainGlobals "isinstance" = some none)
    (z_int : PySem.W.nsIn K mainGlobals "int" = some none)
    (z_bool : PySem.W.nsIn K mainGlobals "bool" = some none)
    (z_str : PySem.W.nsIn K mainGlobals "str" = some none)
    (z_tuple : PySem.W.nsIn K mainGlobals "tuple" = some none)
    (z_range : PySem.W.nsIn K mainGlobals "range" = some none)
    (z_max : PySem.W.nsIn K mainGlobals "max" = some none)
    (z_min : PySem.W.nsIn K mainGlobals "min" = some none)
    (z_any : PySem.W.nsIn K mainGlobals "any" = some none)
    (z_all : PySem.W.nsIn K mainGlobals "all" = some none)
    (t_cls : PySem.W.isClsIn K CNoText = true)
    (t_ga : PySem.W.findIn K (.ref CNoText) "__getattribute__" = some (some (.builtin "BaseException.__getattribute__")))
    (t_gt : PySem.W.findIn K (.ref CNoText) "__getattr__" = some none)
    (t_cl : PySem.W.findIn K (.ref CNoText) "__class__" = some (some (.builtin "object.__class__")))
    (t_ob : PySem.W.mroIn K CNoText (.type "object") = some true)
    (t_be : PySem.W.subIn K (.ref CNoText) (.type "BaseException") = some true)
    (t_self : PySem.W.subIn K (.ref CNoText) (.ref CNoText) = some true)
    (tsub : PySem.W.subIn K (.ref CNoText) (.ref CDuelError) = some true)
    (qNoNumber_c : PySem.W.isClsIn K CNoNumber = true)
    (qNoNumber_t : PySem.W.typeIn K (.ref CNoNumber) = some (.type "type"))
    (qNoNumber_s : PySem.W.subIn K (.ref CNoText) (.ref CNoNumber) = some false)
    (qNoName_a : PySem.W.nsIn K mainGlobals "NoName" = some (some (.ref DNoName)))
    (qNoName_c : PySem.W.isClsIn K DNoName = true)
    (qNoName_t : PySem.W.typeIn K (.ref DNoName) = some (.type "type"))
    (qNoName_s : PySem.W.subIn K (.ref CNoText) (.ref DNoName) = some false)
    (qNoFloor_a : PySem.W.nsIn K mainGlobals "NoFloor" = some (some (.ref DNoFloor)))
    (qNoFloor_c : PySem.W.isClsIn K DNoFloor = true)
    (qNoFloor_t : PySem.W.typeIn K (.ref DNoFloor) = some (.type "type"))
    (qNoFloor_s : PySem.W.subIn K (.ref CNoText) (.ref DNoFloor) = some false)
    (qNoRow_a : PySem.W.nsIn K mainGlobals "NoRow" = some (some (.ref DNoRow)))
    (qNoRow_c : PySem.W.isClsIn K DNoRow = true)
    (qNoRow_t : PySem.W.typeIn K (.ref DNoRow) = some (.type "type"))
    (qNoRow_s : PySem.W.subIn K (.ref CNoText) (.ref DNoRow) = some false)
    (qNoPlace_a : PySem.W.nsIn K mainGlobals "NoPlace" = some (some (.ref DNoPlace)))
    (qNoPlace_c : PySem.W.isClsIn K DNoPlace = true)
    (qNoPlace_t : PySem.W.typeIn K (.ref DNoPlace) = some (.type "type"))
    (qNoPlace_s : PySem.W.subIn K (.ref CNoText) (.ref DNoPlace) = some false)
    (qNoPlan_a : PySem.W.nsIn K mainGlobals "NoPlan" = some (some (.ref DNoPlan)))
    (qNoPlan_c : PySem.W.isClsIn K DNoPlan = true)
    (qNoPlan_t : PySem.W.typeIn K (.ref DNoPlan) = some (.type "type"))
    (qNoPlan_s : PySem.W.subIn K (.ref CNoText) (.ref DNoPlan) = some false)
    (qNoGoal_a : PySem.W.nsIn K mainGlobals "NoGoal" = some (some (.ref DNoGoal)))
    (qNoGoal_c : PySem.W.isClsIn K DNoGoal = true)
    (qNoGoal_t : PySem.W.typeIn K (.ref DNoGoal) = some (.type "type"))
    (qNoGoal_s : PySem.W.subIn K (.ref CNoText) (.ref DNoGoal) = some false)
    (qNoAnswer_a : PySem.W.nsIn K mainGlobals "NoAnswer" = some (some (.ref DNoAnswer)))
    (qNoAnswer_c : PySem.W.isClsIn K DNoAnswer = true)
    (qNoAnswer_t : PySem.W.typeIn K (.ref DNoAnswer) = some (.type "type"))
    (qNoAnswer_s : PySem.W.subIn K (.ref CNoText) (.ref DNoAnswer) = some false)
    (qManyAnswers_a : PySem.W.nsIn K mainGlobals "ManyAnswers" = some (some (.ref DManyAnswers)))
    (qManyAnswers_c : PySem.W.isClsIn K DManyAnswers = true)
    (qManyAnswers_t : PySem.W.typeIn K (.ref DManyAnswers) = some (.type "type"))
    (qManyAnswers_s : PySem.W.subIn K (.ref CNoText) (.ref DManyAnswers) = some false)
    (ib : PySem.W.subIn K (.type "int") (.type "bool") = some false)
    : ∃ fd : FuncData, (∀ (s : Shared) (v : Value), BindsTo s fd ⟨[v], []⟩ [("_law_script", v)]) ∧ ∀ base : Heap, K.In base → base.Ns mainGlobals mg → FnOk l.prog w K mg base CX0 5 fa fd ["_law_script"] (spLaw K) := by
  have e := hfa.symm.trans (PySem.W.mg_of X G a14)
  cases e
  have mENoNumber := PySem.W.mg_of X G aENoNumber
  have ENoNumber : ExcCls K CNoNumber _ _ := ⟨xENoNumber⟩
  have mENoText := PySem.W.mg_of X G aENoText
  have ENoText : ExcCls K CNoText _ _ := ⟨xENoText⟩
  have mEDuelError := PySem.W.mg_of X G aEDuelError
  have EDuelError : ExcCls K CDuelError _ _ := ⟨xEDuelError⟩
  have mcFIGURES := PySem.W.mg_of X G acFIGURES
  have mcMOST_FIGURES := PySem.W.mg_of X G acMOST_FIGURES
  have F1 := fun_mk (st := sCommonDivisor) l1 c1 k1
  have m1 := PySem.W.mg_of X G a1
  have b1 := F1.binds (ps := ["one", "other"]) fun _ _ _ _ _ _ us hl => match us, hl with | [_, _], _ => rfl
  have F2 := fun_mk (st := sFraction) l2 c2 k2
  have m2 := PySem.W.mg_of X G a2
  have b2 := F2.binds (ps := ["top", "bottom"]) fun _ _ _ _ _ _ us hl => match us, hl with | [_, _], _ => rfl
  have F3 := fun_mk (st := sReadFigures) l3 c3 k3
  have m3 := PySem.W.mg_of X G a3
  have b3 := F3.binds (ps := ["text"]) fun _ _ _ _ _ _ us hl => match us, hl with | [_], _ => rfl
  have F4 := fun_mk (st := sReadTop) l4 c4 k4
  have m4 := PySem.W.mg_of X G a4
  have b4 := F4.binds (ps := ["text"]) fun _ _ _ _ _ _ us hl => match us, hl with | [_], _ => rfl
  have F5 := fun_mk (st := sReadFraction) l5 c5 k5
  have m5 := PySem.W.mg_of X G a5
  have b5 := F5.binds (ps := ["text"]) fun _ _ _ _ _ _ us hl => match us, hl with | [_], _ => rfl
  have F6 := fun_mk (st := sLawNth) l6 c6 k6
  have m6 := PySem.W.mg_of X G a6
  have b6 := F6.binds (ps := ["_law_script", "_law_k"]) fun _ _ _ _ _ _ us hl => match us, hl with | [_, _], _ => rfl
  have F7 := fun_mk (st := sLawFigures) l7 c7 k7
  have m7 := PySem.W.mg_of X G a7
  have b7 := F7.binds (ps := ["_law_cell", "_law_ahead"]) fun _ _ _ _ _ _ us hl => match us, hl with | [_, _], _ => rfl
  have F8 := fun_mk (st := sLawText) l8 c8 k8
  have m8 := PySem.W.mg_of X G a8
  have b8 := F8.binds (ps := ["_law_cells"]) fun _ _ _ _ _ _ us hl => match us, hl with | [_], _ => rfl
  have F9 := fun_mk (st := sLawGcd) l9 c9 k9
  have m9 := PySem.W.mg_of X G a9
  have b9 := F9.binds (ps := ["_law_one", "_law_other"]) fun _ _ _ _ _ _ us hl => match us, hl with | [_, _], _ => rfl
  have F10 := fun_mk (st := sLawAreFigures) l10 c10 k10
  have m10 := PySem.W.mg_of X G a10
  have b10 := F10.binds (ps := ["_law_text_here"]) fun _ _ _ _ _ _ us hl => match us, hl with | [_], _ => rfl
  have F11 := fun_mk (st := sLawDue) l11 c11 k11
  have m11 := PySem.W.mg_of X G a11
  have b11 := F11.binds (ps := ["_law_text_here"]) fun _ _ _ _ _ _ us hl => match us, hl with | [_], _ => rfl
  have F12 := fun_mk (st := sLawWhole) l12 c12 k12
  have m12 := PySem.W.mg_of X G a12
  have b12 := F12.binds (ps := ["_law_found"]) fun _ _ _ _ _ _ us hl => match us, hl with | [_], _ => rfl
  have F13 := fun_mk (st := sLawRight) l13 c13 k13
  have m13 := PySem.W.mg_of X G a13
  have b13 := F13.binds (ps := ["_law_text_here"]) fun _ _ _ _ _ _ us hl => match us, hl with | [_], _ => rfl
  have F14 := fun_mk (st := sLaw) l14 c14 k14
  have m14 := PySem.W.mg_of X G a14
  have n_len := PySem.W.mg_none_of X G z_len
  have n_abs := PySem.W.mg_none_of X G z_abs
  have n_isinstance := PySem.W.mg_none_of X G z_isinstance
  have n_int := PySem.W.mg_none_of X G z_int
  have n_bool := PySem.W.mg_none_of X G z_bool
  have n_str := PySem.W.mg_none_of X G z_str
  have n_tuple := PySem.W.mg_none_of X G z_tuple
  have n_range := PySem.W.mg_none_of X G z_range
  have n_max := PySem.W.mg_none_of X G z_max
  have n_min := PySem.W.mg_none_of X G z_min
  have n_any := PySem.W.mg_none_of X G z_any
  have n_all := PySem.W.mg_none_of X G z_all
  have E : Ev K mg CNoNumber CNoText CDuelError DNoName DNoFloor DNoRow DNoPlace DNoPlan DNoGoal DNoAnswer DManyAnswers := { n_len := n_len, n_abs := n_abs, n_isinstance := n_isinstance, n_int := n_int, n_bool := n_bool, n_str := n_str, n_tuple := n_tuple, n_range := n_range, n_max := n_max, n_min := n_min, n_any := n_any, n_all := n_all, ib := ib_of ib, mNoNumber := mENoNumber, eNoNumber := ENoNumber, mNoText := mENoText, eNoText := ENoText, mDuelError := mEDuelError, eDuelError := EDuelError, tNoText := ⟨t_cls, t_ga, t_gt, t_cl, t_ob, t_be⟩, sub := tsub, mNoName := PySem.W.mg_of X G qNoName_a, mNoFloor := PySem.W.mg_of X G qNoFloor_a, mNoRow := PySem.W.mg_of X G qNoRow_a, mNoPlace := PySem.W.mg_of X G qNoPlace_a, mNoPlan := PySem.W.mg_of X G qNoPlan_a, mNoGoal := PySem.W.mg_of X G qNoGoal_a, mNoAnswer := PySem.W.mg_of X G qNoAnswer_a, mManyAnswers := PySem.W.mg_of X G qManyAnswers_a, k0 := kit_no t_self qNoNumber_c qNoNumber_t qNoNumber_s, k1 := kit_no t_self qNoName_c qNoName_t qNoName_s, k2 := kit_no t_self qNoFloor_c qNoFloor_t qNoFloor_s, k3 := kit_no t_self qNoRow_c qNoRow_t qNoRow_s, k4 := kit_no t_self qNoPlace_c qNoPlace_t qNoPlace_s, k5 := kit_no t_self qNoPlan_c qNoPlan_t qNoPlan_s, k6 := kit_no t_self qNoGoal_c qNoGoal_t qNoGoal_s, k7 := kit_no t_self qNoAnswer_c qNoAnswer_t qNoAnswer_s, k8 := kit_no t_self qManyAnswers_c qManyAnswers_t qManyAnswers_s, mFIGURES := ⟨_, mcFIGURES⟩, mMOST_FIGURES := ⟨_, mcMOST_FIGURES⟩ }
  refine ⟨PySem.W.fnOf "law" "law" (defArgs sLaw) (defBody sLaw) (defScope sLaw) .none kV14 dc14 pm14 an14 cd14 ct14, fun s v => .of_eq rfl, fun base _ _ => ?_⟩
  have c_CommonDivisor : CalD l.prog w K mg base 1 "common_divisor" ["one", "other"] TGcd _ _ := ⟨ok_CommonDivisor F1 E , b1, m1, k1⟩
  have c_Fraction : CalD l.prog w K mg base 2 "fraction" ["top", "bottom"] (TFrac CNoNumber) _ _ := ⟨ok_Fraction F2 E c_CommonDivisor, b2, m2, k2⟩
  have c_ReadFigures : CalD l.prog w K mg base 1 "read_figures" ["text"] (TFigs CNoText) _ _ := ⟨ok_ReadFigures F3 E , b3, m3, k3⟩
  have c_ReadTop : CalD l.prog w K mg base 2 "read_top" ["text"] (TTop CNoText) _ _ := ⟨ok_ReadTop F4 E c_ReadFigures, b4, m4, k4⟩
  have c_ReadFraction : CalD l.prog w K mg base 3 "read_fraction" ["text"] (TRead CNoText) _ _ := ⟨ok_ReadFraction F5 E c_ReadTop c_Fraction c_ReadFigures, b5, m5, k5⟩
  have c_LawNth : CalD l.prog w K mg base 1 "_law_nth" ["_law_script", "_law_k"] TNth _ _ := ⟨ok_LawNth F6 E , b6, m6, k6⟩
  have c_LawFigures : CalD l.prog w K mg base 1 "_law_figures" ["_law_cell", "_law_ahead"] TLFigs _ _ := ⟨ok_LawFigures F7 E , b7, m7, k7⟩
  have c_LawText : CalD l.prog w K mg base 2 "_law_text" ["_law_cells"] TText _ _ := ⟨ok_LawText F8 E c_LawFigures, b8, m8, k8⟩
  have c_LawGcd : CalD l.prog w K mg base 1 "_law_gcd" ["_law_one", "_law_other"] TGcd _ _ := ⟨ok_LawGcd F9 E , b9, m9, k9⟩
  have c_LawAreFigures : CalD l.prog w K mg base 1 "_law_are_figures" ["_law_text_here"] TAre _ _ := ⟨ok_LawAreFigures F10 E , b10, m10, k10⟩
  have c_LawDue : CalD l.prog w K mg base 2 "_law_due" ["_law_text_here"] TDue _ _ := ⟨ok_LawDue F11 E c_LawAreFigures c_LawGcd, b11, m11, k11⟩
  have c_LawWhole : CalD l.prog w K mg base 1 "_law_whole" ["_law_found"] TWhole _ _ := ⟨ok_LawWhole F12 E , b12, m12, k12⟩
  have c_LawRight : CalD l.prog w K mg base 4 "_law_right" ["_law_text_here"] TRight _ _ := ⟨ok_LawRight F13 E c_LawDue c_ReadFraction c_LawWhole, b13, m13, k13⟩
  exact law_of (ok_Law F14 E c_LawText c_LawNth c_LawRight)
theorem walk {l : PySem.W.OpenLaw} {q : Program} {loose : List Str} {XP : (Str → Option Value) → Heap → Prop} {YP : World → Heap → Prop} {d : DefRec} {K : Params → PySem.W.Frag} (hn : l.most = some 63) (hdf : d.params.defaults = [])
    (hY : ∀ (w : World) (h : Heap), YP w h → (K w.params).In h)
    (F : ∀ (w : World) (mg : Str → Option Value) (fa : Addr) (h : Heap), (K w.params).In h → h.Ns mainGlobals mg → mg d.name = some (.ref fa) →
      ∃ fd : FuncData, (∀ (s : Shared) (u : Value), BindsTo s fd ⟨[u], []⟩ [("_law_script", u)]) ∧ ∀ base : Heap, (K w.params).In base → base.Ns mainGlobals mg → FnOk l.prog w (K w.params) mg base CX0 5 fa fd ["_law_script"] (spLaw (K w.params))) :
    PySem.W.WalkO q loose XP YP l.row.toRowW d [] (fun f vs => PySem.call f vs) :=
  L2.walk_of (n := 63) (k := 5) (x := "_law_script") (CX := fun _ => CX0) (sp := fun w => spLaw (K w.params)) hn (by decide) hdf ⟨rfl, by decide, by decide⟩ hY F (fun _ _ a ns hl _ hS => ⟨a, ns, rfl, hS, hl, fun _ => rfl⟩) fun _ _ _ _ _ z => z
end Pg
open PySem PySem.W PyProof.Rows
set_option maxRecDepth 100000 in
set_option maxHeartbeats 0 in
theorem PySem.Challenge.cw_chanceduel_k04_fractions_read_holds : PySem.Challenge.rw_chanceduel_k04_fractions_read.Holds := by
  w_on; o_law; k_head; (case hw => w_witness2)
  k_fill
  refine Pg.walk (l := PySem.Challenge.rw_chanceduel_k04_fractions_read) rfl rfl (fun w h Y => PySem.W.kIn_of Y) ?F
  case F =>
    intro w mg fa h KX G hmg
    refine' Pg.all_mk KX G hmg ?aENoNumber ?xENoNumber ?aENoText ?xENoText ?aEDuelError ?xEDuelError ?acFIGURES ?acMOST_FIGURES ?a1 ?l1 ?c1 ?k1 ?a2 ?l2 ?c2 ?k2 ?a3 ?l3 ?c3 ?k3 ?a4 ?l4 ?c4 ?k4 ?a5 ?l5 ?c5 ?k5 ?a6 ?l6 ?c6 ?k6 ?a7 ?l7 ?c7 ?k7 ?a8 ?l8 ?c8 ?k8 ?a9 ?l9 ?c9 ?k9 ?a10 ?l10 ?c10 ?k10 ?a11 ?l11 ?c11 ?k11 ?a12 ?l12 ?c12 ?k12 ?a13 ?l13 ?c13 ?k13 ?a14 ?l14 ?c14 ?k14 ?z_len ?z_abs ?z_isinstance ?z_int ?z_bool ?z_str ?z_tuple ?z_range ?z_max ?z_min ?z_any ?z_all ?t_cls ?t_ga ?t_gt ?t_cl ?t_ob ?t_be ?t_self ?tsub ?qNoNumber_c ?qNoNumber_t ?qNoNumber_s ?qNoName_a ?qNoName_c ?qNoName_t ?qNoName_s ?qNoFloor_a ?qNoFloor_c ?qNoFloor_t ?qNoFloor_s ?qNoRow_a ?qNoRow_c ?qNoRow_t ?qNoRow_s ?qNoPlace_a ?qNoPlace_c ?qNoPlace_t ?qNoPlace_s ?qNoPlan_a ?qNoPlan_c ?qNoPlan_t ?qNoPlan_s ?qNoGoal_a ?qNoGoal_c ?qNoGoal_t ?qNoGoal_s ?qNoAnswer_a ?qNoAnswer_c ?qNoAnswer_t ?qNoAnswer_s ?qManyAnswers_a ?qManyAnswers_c ?qManyAnswers_t ?qManyAnswers_s ?ib
    (case aENoNumber => k_is)
    (case xENoNumber => k_exc)
    (case aENoText => k_is)
    (case xENoText => k_exc)
    (case aEDuelError => k_is)
    (case xEDuelError => k_exc)
    (case acFIGURES => k_is)
    (case acMOST_FIGURES => k_is)
    (case a1 => k_is)
    (case l1 => k_is)
    (case c1 => k_is)
    (case k1 => k_is)
    (case a2 => k_is)
    (case l2 => k_is)
    (case c2 => k_is)
    (case k2 => k_is)
    (case a3 => k_is)
    (case l3 => k_is)
    (case c3 => k_is)
    (case k3 => k_is)
    (case a4 => k_is)
    (case l4 => k_is)
    (case c4 => k_is)
    (case k4 => k_is)
    (case a5 => k_is)
    (case l5 => k_is)
    (case c5 => k_is)
    (case k5 => k_is)
    (case a6 => k_is)
    (case l6 => k_is)
    (case c6 => k_is)
    (case k6 => k_is)
    (case a7 => k_is)
    (case l7 => k_is)
    (case c7 => k_is)
    (case k7 => k_is)
    (case a8 => k_is)
    (case l8 => k_is)
    (case c8 => k_is)
    (case k8 => k_is)
    (case a9 => k_is)
    (case l9 => k_is)
    (case c9 => k_is)
    (case k9 => k_is)
    (case a10 => k_is)
    (case l10 => k_is)
    (case c10 => k_is)
    (case k10 => k_is)
    (case a11 => k_is)
    (case l11 => k_is)
    (case c11 => k_is)
    (case k11 => k_is)
    (case a12 => k_is)
    (case l12 => k_is)
    (case c12 => k_is)
    (case k12 => k_is)
    (case a13 => k_is)
    (case l13 => k_is)
    (case c13 => k_is)
    (case k13 => k_is)
    (case a14 => k_is)
    (case l14 => k_is)
    (case c14 => k_is)
    (case k14 => k_is)
    (case z_len => k_is)
    (case z_abs => k_is)
    (case z_isinstance => k_is)
    (case z_int => k_is)
    (case z_bool => k_is)
    (case z_str => k_is)
    (case z_tuple => k_is)
    (case z_range => k_is)
    (case z_max => k_is)
    (case z_min => k_is)
    (case z_any => k_is)
    (case z_all => k_is)
    (case t_cls => k_is)
    (case t_ga => k_is)
    (case t_gt => k_is)
    (case t_cl => k_is)
    (case t_ob => k_is)
    (case t_be => k_is)
    (case t_self => k_is)
    (case tsub => k_is)
    (case qNoNumber_c => k_is)
    (case qNoNumber_t => k_is)
    (case qNoNumber_s => k_is)
    (case qNoName_a => k_is)
    (case qNoName_c => k_is)
    (case qNoName_t => k_is)
    (case qNoName_s => k_is)
    (case qNoFloor_a => k_is)
    (case qNoFloor_c => k_is)
    (case qNoFloor_t => k_is)
    (case qNoFloor_s => k_is)
    (case qNoRow_a => k_is)
    (case qNoRow_c => k_is)
    (case qNoRow_t => k_is)
    (case qNoRow_s => k_is)
    (case qNoPlace_a => k_is)
    (case qNoPlace_c => k_is)
    (case qNoPlace_t => k_is)
    (case qNoPlace_s => k_is)
    (case qNoPlan_a => k_is)
    (case qNoPlan_c => k_is)
    (case qNoPlan_t => k_is)
    (case qNoPlan_s => k_is)
    (case qNoGoal_a => k_is)
    (case qNoGoal_c => k_is)
    (case qNoGoal_t => k_is)
    (case qNoGoal_s => k_is)
    (case qNoAnswer_a => k_is)
    (case qNoAnswer_c => k_is)
    (case qNoAnswer_t => k_is)
    (case qNoAnswer_s => k_is)
    (case qManyAnswers_a => k_is)
    (case qManyAnswers_c => k_is)
    (case qManyAnswers_t => k_is)
    (case qManyAnswers_s => k_is)
    (case ib => k_is)

